/- The leaves of revise. -/
import Derived.Test.YtpeoabopeihadaaYL
set_option linter.unusedVariables false
set_option linter.unusedSimpArgs false
set_option linter.unusedSectionVars false
namespace Go.Proofs.Ytpeoabopeihadaa.Mn
open Go.RowKit
attribute [local simp] Tri.typeInfo Tri.sizeOf Tri.underlying Tri.runUnderlying Tri.isAgg Tri.zeroValue Tri.depth Tri.stoodInHeld Tri.eqGuardType Tri.call15 Tri.call27 Tri.call31 Tri.call32 Tri.call38 Tri.call39 Tri.call40 Tri.call41 Tri.call43 Tri.call44 Tri.call45 Tri.call46 Tri.call49 Tri.call52 Tri.call54 Tri.call65 Tri.call69 Tri.call70 Tri.call72 Tri.call73 Tri.call74 Tri.call75 Tri.call82 Tri.call86 Tri.call89 Tri.call90 Tri.call91 Tri.call92 Tri.call93 Tri.call94 Tri.call95 Tri.call96 Tri.call97 Tri.call98 Tri.call99 Tri.call100 Tri.call102 Tri.call103 Tri.call104 Tri.call106 Tri.call116 Tri.call117 Tri.call118 Tri.call119 Tri.call120 Tri.call122 Tri.call126 Tri.call130 Tri.call131 Tri.call132 Tri.call143 Tri.call144 Tri.call145 Tri.call146 Tri.call147 Tri.call156 Tri.call157 Tri.call159 Tri.call160 Tri.call161 Tri.call162 Tri.call163 Tri.call164 Tri.call165 Tri.call175 Tri.call176 Tri.call186 Tri.call188 Tri.call205
theorem of_any {w : World} {v : Value} {l : List Int} (r : Int) (hR : Row w v l) : NowA 41 w #[v, .int .i64 r] (valN 1 l r) (valE 1 l r) := by
  have H := hide (now_any (r := r) (Or.inl rfl : (1 : Int) = 1 ∨ (1 : Int) = 1000) hR)
  unfold NowA at *
  generalize valN 1 l r = n at *
  generalize valE 1 l r = E at *
  go_enter (Tri.at (by decide) Try.func41), Try.ntmps41
  go_wp2_with fail
  refine (unhide H).mono ?_
  rintro e w1 ⟨rfl, hb⟩
  go_wp2_with fail
  go_ret2
  exact ⟨rfl, hb⟩
def rtE (L : Ln) (l : List Int) : Int := if rightB L l = true then 0 else 2
theorem isr_any {L : Ln} {a : Option Addr} {n c : Nat} {l : List Int} {w : World} (hR : Row w (.slice a n c) l) : Calls (Tri Try.prog) 92 #[.agg (lnA L (.slice a n c))] w fun z w' => z = .returned (.int .i64 (rtE L l)) ∧ Below w.heap.size w w' := by
  have H := hide (right_any L a n c l (w.alloc (.cells (lnA L (.slice a n c)) 53)) (hR.alloc _))
  unfold Tells at H
  unfold rtE
  have HB := hide (below1L w (.cells (lnA L (.slice a n c)) 53))
  clear hR
  generalize rightB L l = B at *
  go_enter (Tri.at (by decide) Try.func92), Try.ntmps92
  go_wp2_with fail
  refine (unhide H).mono ?_
  rintro z w1 ⟨rfl, hb⟩
  replace HB := hide (below_via (unhide HB) hb)
  clear hb H
  cases B
  · go_wp2_with fail
    go_ret
    exact ⟨rfl, unhide HB⟩
  · go_wp2_with fail
    go_ret
    exact ⟨rfl, unhide HB⟩
def lvE (L : Ln) : Int := if L.st = 1 then 0 else 12
theorem isl_any (L : Ln) (s : Value) (w : World) : Calls (Tri Try.prog) 93 #[.agg (lnA L s)] w fun z w' => z = .returned (.int .i64 (lvE L)) ∧ Below w.heap.size w w' := by
  unfold lvE
  by_cases h : L.st = 1
  · have d : (L.st != 1) = false := by rw [h]; rfl
    rw [if_pos h]
    go_enter (Tri.at (by decide) Try.func93), Try.ntmps93
    go_wp2_with fail
    go_ret
    exact ⟨rfl, below1L w _⟩
  · have d : (L.st != 1) = true := by simpa using h
    rw [if_neg h]
    go_enter (Tri.at (by decide) Try.func93), Try.ntmps93
    go_wp2_with fail
    go_ret
    exact ⟨rfl, below1L w _⟩
def apB (n g : Int) : Bool := decide ((g + 9) / 10 ≤ max (n - g) (g - n))
theorem apart_any {n g : Int} (h1 : -4611686018427387904 ≤ n) (h2 : n ≤ 4611686018427387904) (h3 : 0 ≤ g) (h4 : g ≤ 1125899906842624) (w : World) : Calls (Tri Try.prog) 132 #[.int .i64 n, .int .i64 g] w fun z w' => z = .returned (.bool (apB n g)) ∧ w' = w := by
  unfold apB
  go_enter (Tri.at (by decide) Try.func132), Try.ntmps132
  go_wp2_with fail
  all_goals go_ret
  all_goals exact ⟨ret_bool (decide_eq_decide.2 (by omega)), rfl⟩
def adjK (L : Ln) (g : Int) : Ln := { L with adj := L.adj + (g - L.gr), gr := g, due := 0, be := 0 }
set_option maxHeartbeats 2000000 in
theorem adj_any {L : Ln} {a a2 : Option Addr} {n c n2 c2 : Nat} {g : Int} {fl : List Int} {w : World} (b1 : -1125899906842624 ≤ L.adj) (b2 : L.adj ≤ 1125899906842624) (b3 : 0 ≤ L.gr) (b4 : L.gr ≤ 1125899906842624) (b5 : 0 ≤ g) (b6 : g ≤ 4611686018427387904) (hR : Row w (.slice a2 n2 c2) fl) (hS : Sl a2 n2 c2) (hl : fl.length ≤ 1000000) : Calls (Tri Try.prog) 130 #[.agg (lnA L (.slice a n c)), .int .i64 g, .slice a2 n2 c2] w fun z w' => ∃ a3 c3, z = .returned (.agg (lnA (adjK L g) (.slice a3 fl.length c3))) ∧ Row w' (.slice a3 fl.length c3) fl ∧ Sl a3 fl.length c3 ∧ (∀ x, a3 = some x → w.heap.size ≤ x.block) ∧ Below w.heap.size w w' := by
  have HB : Hid (Below w.heap.size w ((w.alloc (.cells #[.int .i64 L.id, .int .i64 L.st, .int .i64 0, .int .i64 L.out, .int .i64 L.rt, .int .i64 g, .int .i64 0, .int .i64 L.inc, .int .i64 L.got, .int .i64 (L.adj + (g - L.gr)), .int .i64 L.wri, .int .i64 L.rcv, .slice a n c] 53)).alloc (.cells lnZ 53))) := hide ((below1L w _).alloc (by simp) _)
  have HK : Hid (Blk ((w.alloc (.cells #[.int .i64 L.id, .int .i64 L.st, .int .i64 0, .int .i64 L.out, .int .i64 L.rt, .int .i64 g, .int .i64 0, .int .i64 L.inc, .int .i64 L.got, .int .i64 (L.adj + (g - L.gr)), .int .i64 L.wri, .int .i64 L.rcv, .slice a n c] 53)).alloc (.cells lnZ 53)) w.heap.size #[.int .i64 L.id, .int .i64 L.st, .int .i64 0, .int .i64 L.out, .int .i64 L.rt, .int .i64 g, .int .i64 0, .int .i64 L.inc, .int .i64 L.got, .int .i64 (L.adj + (g - L.gr)), .int .i64 L.wri, .int .i64 L.rcv, .slice a n c] 53) := hide ((Blk.new w #[.int .i64 L.id, .int .i64 L.st, .int .i64 0, .int .i64 L.out, .int .i64 L.rt, .int .i64 g, .int .i64 0, .int .i64 L.inc, .int .i64 L.got, .int .i64 (L.adj + (g - L.gr)), .int .i64 L.wri, .int .i64 L.rcv, .slice a n c] 53).alloc _)
  have HZ : Hid (Blk ((w.alloc (.cells #[.int .i64 L.id, .int .i64 L.st, .int .i64 0, .int .i64 L.out, .int .i64 L.rt, .int .i64 g, .int .i64 0, .int .i64 L.inc, .int .i64 L.got, .int .i64 (L.adj + (g - L.gr)), .int .i64 L.wri, .int .i64 L.rcv, .slice a n c] 53)).alloc (.cells lnZ 53)) (w.heap.size + 1) lnZ 53) := hide (by have h := Blk.new (w.alloc (.cells #[.int .i64 L.id, .int .i64 L.st, .int .i64 0, .int .i64 L.out, .int .i64 L.rt, .int .i64 g, .int .i64 0, .int .i64 L.inc, .int .i64 L.got, .int .i64 (L.adj + (g - L.gr)), .int .i64 L.wri, .int .i64 L.rcv, .slice a n c] 53)) lnZ 53; simpa using h)
  have HG := hide (Grow.nil 2 ((w.alloc (.cells #[.int .i64 L.id, .int .i64 L.st, .int .i64 0, .int .i64 L.out, .int .i64 L.rt, .int .i64 g, .int .i64 0, .int .i64 L.inc, .int .i64 L.got, .int .i64 (L.adj + (g - L.gr)), .int .i64 L.wri, .int .i64 L.rcv, .slice a n c] 53)).alloc (.cells lnZ 53)) ((w.alloc (.cells #[.int .i64 L.id, .int .i64 L.st, .int .i64 0, .int .i64 L.out, .int .i64 L.rt, .int .i64 g, .int .i64 0, .int .i64 L.inc, .int .i64 L.got, .int .i64 (L.adj + (g - L.gr)), .int .i64 L.wri, .int .i64 L.rcv, .slice a n c] 53)).alloc (.cells lnZ 53)) (Below.refl _ _))
  have HF : Hid (From ((w.alloc (.cells #[.int .i64 L.id, .int .i64 L.st, .int .i64 0, .int .i64 L.out, .int .i64 L.rt, .int .i64 g, .int .i64 0, .int .i64 L.inc, .int .i64 L.got, .int .i64 (L.adj + (g - L.gr)), .int .i64 L.wri, .int .i64 L.rcv, .slice a n c] 53)).alloc (.cells lnZ 53)) (.slice a2 n2 c2) fl) := hide (from_row ((hR.alloc _).alloc _) hS.2)
  have HI := hide (row_in hR)
  have HL := hide hl
  clear hR hS hl
  go_enter (Tri.at (by decide) Try.func130), Try.ntmps130
  go_wp2_with (refine list_from rfl (.const (.slice none 0 0)) (.tmp 19) rfl _ _ _ _ [] fl (unhide HG) (unhide HF) rfl rfl (by have := unhide HL; simpa using this) (unhide HI) ?_)
  intro v W3 hG
  obtain ⟨a3, c3, rfl, hr, hs, hf⟩ := grow_sl hG (unhide HL)
  replace HB := hide (below_via (unhide HB) hG.below)
  have HN : Hid (∀ x, a3 = some x → w.heap.size + 1 < x.block) := hide (fun x hx => Nat.lt_of_lt_of_le (show Blk _ _ _ _ from unhide HZ).lt (hf x hx))
  replace HK := hide ((show Blk _ _ _ _ from unhide HK).keep hG.below)
  replace HZ := hide ((show Blk _ _ _ _ from unhide HZ).keep hG.below)
  have HR3 := hide hr
  have HS3 := hide hs
  clear hG hf HG HF HI hr hs
  generalize hn3 : fl.length = n3 at *
  replace hn3 := hide hn3
  obtain ⟨x0, x1, x2, x3, x4, x5, x6, x7, x8, x9, x10, x11, x12⟩ := Blk.c13 (show Blk _ _ _ _ from unhide HK)
  obtain ⟨u0, u1, u2, u3, u4, u5, u6, u7, u8, u9, u10, u11, u12⟩ := Blk.z13 (show Blk _ _ _ _ from unhide HK)
  obtain ⟨y0, y1, y2, y3, y4, y5, y6, y7, y8, y9, y10, y11, y12⟩ := Blk.c13 (show Blk _ _ _ _ from unhide HZ)
  obtain ⟨v0, v1, v2, v3, v4, v5, v6, v7, v8, v9, v10, v11, v12⟩ := Blk.z13 (show Blk _ _ _ _ from unhide HZ)
  go_wp2_with fail
  clear x0 u0 y0 v0 x1 u1 y1 v1 x2 u2 y2 v2 x3 u3 y3 v3 x4 u4 y4 v4 x5 u5 y5 v5 x6 u6 y6 v6 x7 u7 y7 v7 x8 u8 y8 v8 x9 u9 y9 v9 x10 u10 y10 v10 x11 u11 y11 v11 x12 u12 y12 v12
  generalize hW : World.setCell _ _ _ = W
  have k2 : Blk W (w.heap.size + 1) #[.int .i64 L.id, .int .i64 L.st, .int .i64 0, .int .i64 L.out, .int .i64 L.rt, .int .i64 g, .int .i64 0, .int .i64 L.inc, .int .i64 L.got, .int .i64 (L.adj + (g - L.gr)), .int .i64 L.wri, .int .i64 L.rcv, .slice a3 n3 c3] 53 := by rw [← hW]; exact ((show Blk _ _ _ _ from unhide HZ).other (by omega) 12 _).wr13 _ _ _ _ _ _ _ _ _ _ _ _ _
  have k4 : Below w.heap.size w W := by rw [← hW]; exact below_putN (by omega) [_, _, _, _, _, _, _, _, _, _, _, _, _] 0 ((unhide HB).setCell (p := ⟨w.heap.size, 12, none⟩) (Nat.le_refl _) _)
  have k5 : Row W (.slice a3 n3 c3) fl := by rw [← hW]; exact Row.offN (fun x hx => by have := unhide HN x hx; omega) [_, _, _, _, _, _, _, _, _, _, _, _, _] 0 ((unhide HR3).off (fun x hx => by have := unhide HN x hx; omega))
  have k6 : ∀ x, a3 = some x → w.heap.size ≤ x.block := fun x hx => by have := unhide HN x hx; omega
  have k7 := unhide HS3
  clear hW
  obtain ⟨p0, p1, p2, p3, p4, p5, p6, p7, p8, p9, p10, p11, p12⟩ := k2.c13
  have e3 := unhide hn3
  subst e3
  exact bodyPost_ret (v := .agg #[.int .i64 L.id, .int .i64 L.st, .int .i64 0, .int .i64 L.out, .int .i64 L.rt, .int .i64 g, .int .i64 0, .int .i64 L.inc, .int .i64 L.got, .int .i64 (L.adj + (g - L.gr)), .int .i64 L.wri, .int .i64 L.rcv, .slice a3 fl.length c3]) (by simp [results, Try.results130, go_sem, p0, p1, p2, p3, p4, p5, p6, p7, p8, p9, p10, p11, p12]) rfl ⟨a3, c3, rfl, k5, k7, k6, k4⟩
def comeE (fl : List Int) : Int := if 1 ≤ fl.length ∧ amtL fl = true then 0 else 2
def ComeA (w : World) (L : Ln) (s : Value) (p : Nat) (e : Int) : Prop := Calls (Tri Try.prog) 131 #[.agg (lnA L s), .pointer (some ⟨p, 0, none⟩)] w fun z w' => z = .returned (.int .i64 e) ∧ Below w.heap.size w w'
theorem c131_no (L : Ln) (s : Value) (p cap : Nat) (a : Option Addr) (w : World) (hp : w.cell? ⟨p, 0, none⟩ = some (.slice a 0 cap)) : ComeA w L s p 2 := by
  unfold ComeA
  have hq := cell_old hp (.cells (lnA L s) 53)
  go_enter (Tri.at (by decide) Try.func131), Try.ntmps131
  go_wp2_with fail
  go_ret
  exact ⟨rfl, below1L w _⟩
theorem c131_long (L : Ln) (s : Value) (p len cap : Nat) (a : Option Addr) (w : World) (hp : w.cell? ⟨p, 0, none⟩ = some (.slice a len cap)) (h : 600 < len) : ComeA w L s p 2 := by
  unfold ComeA
  have d1 : decide ((len : Int) < 1) = false := decide_eq_false (by omega)
  have d2 : decide ((600 : Int) < (len : Int)) = true := decide_eq_true (by omega)
  have hq := cell_old hp (.cells (lnA L s) 53)
  go_enter (Tri.at (by decide) Try.func131), Try.ntmps131
  go_wp2_with fail
  go_ret
  exact ⟨rfl, below1L w _⟩
set_option maxHeartbeats 1600000 in
theorem c131_row (L : Ln) (s : Value) (p b off cap len : Nat) (l : List Int) (e : Int) (w : World) (hp : w.cell? ⟨p, 0, none⟩ = some (.slice (some ⟨b, off, none⟩) len cap)) (h1 : 1 ≤ len) (hl : ¬ 600 < len) (hc : ∀ j, j < len → w.cell? ⟨b, off + j, none⟩ = some (.int .i64 (l.getD j 0)))
    (he : (e = 2 ∧ ∃ j, j < len ∧ inB 0 (l.getD j 0) 10000000000000 = false) ∨ (e = 0 ∧ ∀ j, j < len → inB 0 (l.getD j 0) 10000000000000 = true)) : ComeA w L s p e := by
  unfold ComeA
  have HC : Hid (∀ j, j < len → (w.alloc (.cells (lnA L s) 53)).cell? ⟨b, off + j, none⟩ = some (.int .i64 (l.getD j 0))) := hide (fun j hj => cell_old (hc j hj) _)
  have hq := cell_old hp (.cells (lnA L s) 53)
  have HE := hide he
  clear hc he
  have d1 : decide ((len : Int) < 1) = false := decide_eq_false (by omega)
  have d3 : decide ((600 : Int) < (len : Int)) = false := decide_eq_false (by omega)
  go_enter (Tri.at (by decide) Try.func131), Try.ntmps131
  go_wp2_with fail
  go_loop [16] (fun i => ∃ (k : Nat), k ≤ len ∧ i = .int .i64 k ∧ Hid (∀ j, j < k → inB 0 (l.getD j 0) 10000000000000 = true)) (fun i => len - (intOf i).toNat)
  case atStart => exact ⟨0, Nat.zero_le _, rfl, hide (fun j hj => absurd hj (Nat.not_lt_zero j))⟩
  case round =>
    obtain ⟨k, hk, rfl, HP⟩ := hrel
    by_cases hlt : k < len
    · have d0 := unhide HC k hlt
      have k1 : (k : Int) < (len : Int) := by omega
      have HN : Hid (inB 0 (l.getD k 0) 10000000000000 = false → e = 2) := hide (fun h => by
        rcases unhide HE with ⟨e1, _⟩ | ⟨_, e2⟩
        · exact e1
        · rw [e2 k hlt] at h; cases h)
      have HS : Hid (inB 0 (l.getD k 0) 10000000000000 = true → ∀ j, j < k + 1 → inB 0 (l.getD j 0) 10000000000000 = true) := hide (fun h j hj => by
        rcases Nat.lt_or_ge j k with h2 | h2
        · exact unhide HP j h2
        · rw [show j = k by omega]; exact h)
      generalize l.getD k 0 = x at d0 HN HS
      by_cases x1 : x < 0
      · have g1 : decide (x < 0) = true := decide_eq_true x1
        obtain rfl := unhide HN (inB_no (by omega))
        clear HN HS HC HE
        go_wp2_with fail
        go_ret
        exact ⟨rfl, below1L w _⟩
      have g1 : decide (x < 0) = false := decide_eq_false x1
      by_cases x2 : 10000000000000 < x
      · have g2 : decide (10000000000000 < x) = true := decide_eq_true x2
        obtain rfl := unhide HN (inB_no (by omega))
        clear HN HS HC HE
        go_wp2_with fail
        go_ret
        exact ⟨rfl, below1L w _⟩
      have g2 : decide (10000000000000 < x) = false := decide_eq_false x2
      have HS2 := hide (unhide HS (inB_of ⟨by omega, by omega⟩))
      clear HN HS x1 x2
      go_wp2_with fail
      go_round
      case rel => exact ⟨k + 1, by omega, by go_num, HS2⟩
      case measure => simp [intOf]; omega
    · have ek : k = len := by omega
      subst ek
      have e1 : e = 0 := by
        rcases unhide HE with ⟨_, j, hj, h⟩ | ⟨h, _⟩
        · rw [unhide HP j hj] at h; cases h
        · exact h
      subst e1
      clear HE HP HC
      go_wp2_with fail
      go_ret
      exact ⟨rfl, below1L w _⟩
theorem c131_any {L : Ln} {s : Value} {p : Nat} {v : Value} {l : List Int} {w : World} (hp : w.cell? ⟨p, 0, none⟩ = some v) (hR : Row w v l) : ComeA w L s p (comeE l) := by
  unfold comeE amtL
  by_cases h0 : l.length = 0
  · obtain ⟨a, c, rfl⟩ := row_slice hR
    rw [if_neg (by omega)]
    rw [h0] at hp
    exact c131_no L s p c a w hp
  by_cases h6 : 600 < l.length
  · obtain ⟨a, c, rfl⟩ := row_slice hR
    rw [if_neg (by simp; omega)]
    exact c131_long L s p _ c a w hp h6
  rcases hR with ⟨a, c, rfl, h⟩ | ⟨b, off, c, rfl, h1, h2, h3, h4⟩
  · exact absurd (by rw [h]; rfl) h0
  · refine c131_row L s p b off c l.length l _ w hp (by omega) h6 h3 ?_
    by_cases ha : l.all (fun x => inB 0 x 10000000000000) = true
    · refine .inr ⟨by rw [if_pos ⟨by omega, by simp only [ha, Bool.and_true]; exact decide_eq_true (by omega)⟩], fun j hj => ?_⟩
      have := List.all_eq_true.1 ha (l.getD j 0) (by rw [List.getD_eq_getElem?_getD, List.getElem?_eq_getElem hj]; exact List.getElem_mem hj)
      exact this
    · refine .inl ⟨by rw [if_neg (by rintro ⟨_, h⟩; exact ha (Bool.and_eq_true _ _ ▸ h).2)], ?_⟩
      obtain ⟨x, hx, hxe⟩ := List.any_eq_true.1 (show l.any (fun x => !inB 0 x 10000000000000) = true by
        rw [← Bool.not_eq_false']
        simpa [List.all_eq_not_any_not] using ha)
      obtain ⟨j, hj, rfl⟩ := List.getElem_of_mem hx
      exact ⟨j, hj, by rw [List.getD_eq_getElem?_getD, List.getElem?_eq_getElem hj]; simpa using hxe⟩
theorem valN_bd (b : Int) (l : List Int) (r : Int) : -4611686018427387904 ≤ valN b l r ∧ valN b l r ≤ 4611686018427387904 := by
  unfold valN
  split
  · next h => exact fits_in (valE_ok h).2.2.2
  · omega
def tstB (L : Ln) (fl : List Int) : Bool := decide (valE 1 fl L.rt = 0) && apB (valN 1 fl L.rt) L.gr
theorem test_any {L : Ln} {s v : Value} {fl : List Int} {w : World} (h1 : 0 ≤ L.gr) (h2 : L.gr ≤ 1125899906842624) (hR : Row w v fl) : Calls (Tri Try.prog) 104 #[.agg (lnA L s), v] w fun z w' => z = .returned (.tuple #[.agg #[.int .i64 (valN 1 fl L.rt), .bool (tstB L fl)], .int .i64 (valE 1 fl L.rt)]) ∧ Below w.heap.size w w' := by
  have H := hide (of_any (w := (w.alloc (.cells (lnA L s) 53)).alloc (.cells #[.int .i64 0, .bool false] 139)) L.rt ((hR.alloc _).alloc _))
  unfold NowA at H
  have HB : Hid (Below w.heap.size w ((w.alloc (.cells (lnA L s) 53)).alloc (.cells #[.int .i64 0, .bool false] 139))) := hide ((below1L w _).alloc (by simp) _)
  have HK : Hid (Blk ((w.alloc (.cells (lnA L s) 53)).alloc (.cells #[.int .i64 0, .bool false] 139)) w.heap.size (lnA L s) 53) := hide ((Blk.new w (lnA L s) 53).alloc _)
  have HZ2 : Hid (Blk ((w.alloc (.cells (lnA L s) 53)).alloc (.cells #[.int .i64 0, .bool false] 139)) (w.heap.size + 1) #[.int .i64 0, .bool false] 139) := hide (by have h := Blk.new (w.alloc (.cells (lnA L s) 53)) #[.int .i64 0, .bool false] 139; simpa using h)
  have HA : Hid (∀ w1, Calls (Tri Try.prog) 132 #[.int .i64 (valN 1 fl L.rt), .int .i64 L.gr] w1 fun z w2 => z = .returned (.bool (apB (valN 1 fl L.rt) L.gr)) ∧ w2 = w1) := hide (fun w1 => apart_any (valN_bd 1 fl L.rt).1 (valN_bd 1 fl L.rt).2 h1 h2 w1)
  have HZ : Hid (valE 1 fl L.rt ≠ 0 → valN 1 fl L.rt = 0) := hide (fun h => by unfold valN; rw [if_neg h])
  unfold tstB
  clear hR h1 h2
  generalize valN 1 fl L.rt = N at *
  generalize valE 1 fl L.rt = E at *
  generalize apB N L.gr = B at *
  go_enter (Tri.at (by decide) Try.func104), Try.ntmps104
  go_wp2_with fail
  refine (unhide H).mono ?_
  rintro z w1 ⟨rfl, hb⟩
  replace HB := hide (below_via (unhide HB) hb)
  replace HK := hide ((unhide HK).keep hb)
  replace HZ2 := hide ((show Blk _ _ _ _ from unhide HZ2).keep hb)
  clear hb H
  have f0 := (show Blk _ _ _ _ from unhide HZ2).fz 0
  have f1 := (show Blk _ _ _ _ from unhide HZ2).fz 1
  have y0 := (show Blk _ _ _ _ from unhide HZ2).at 0 (.int .i64 0) rfl
  have y1 := (show Blk _ _ _ _ from unhide HZ2).at 1 (.bool false) rfl
  by_cases hE : E = 0
  · subst hE
    have t0 : ((0 : Int) != 0) = false := rfl
    have q5 := (show Blk _ _ _ _ from unhide HK).at 5 (.int .i64 L.gr) rfl
    go_wp2_with fail
    refine (unhide HA _).mono ?_
    rintro z w2 ⟨rfl, rfl⟩
    go_wp2_with fail
    generalize hW : World.setCell _ _ _ = W
    have k2 : Blk W (w.heap.size + 1) #[.int .i64 N, .bool B] 139 := by rw [← hW]; exact Blk.setN [.int .i64 N, .bool B] 0 (unhide HZ2) rfl
    have k4 : Below w.heap.size w W := by rw [← hW]; exact below_putN (by omega) [.int .i64 N, .bool B] 0 (unhide HB)
    have p0 := k2.at 0 _ rfl
    have p1 := k2.at 1 _ rfl
    clear f0 f1 y0 y1
    exact bodyPost_ret (v := .tuple #[.agg #[.int .i64 N, .bool B], .int .i64 0]) (by simp [results, Try.results104, go_sem, p0, p1]) rfl ⟨by simp, k4⟩
  · have t0 : (E != 0) = true := by simpa using hE
    obtain rfl := unhide HZ hE
    go_wp2_with fail
    generalize hW : World.setCell _ _ _ = W
    have k2 : Blk W (w.heap.size + 1) #[.int .i64 0, .bool false] 139 := by rw [← hW]; exact Blk.setN [.int .i64 0, .bool false] 0 (unhide HZ2) rfl
    have k4 : Below w.heap.size w W := by rw [← hW]; exact below_putN (by omega) [.int .i64 0, .bool false] 0 (unhide HB)
    have p0 := k2.at 0 _ rfl
    have p1 := k2.at 1 _ rfl
    clear f0 f1 y0 y1
    exact bodyPost_ret (v := .tuple #[.agg #[.int .i64 0, .bool false], .int .i64 E]) (by simp [results, Try.results104, go_sem, p0, p1]) rfl ⟨by simp [hE], k4⟩
theorem cat_st {L : Ln} {a a2 : Option Addr} {n c n2 c2 : Nat} {fl : List Int} {w : World} (hR : Row w (.slice a2 n2 c2) fl) : Hid (Below w.heap.size w ((w.alloc (.cells (lnA L (.slice a n c)) 53)).alloc (.cells #[.int .i64 0, .int .i64 0, .int .i64 0, .int .i64 0, .int .i64 0, .int .i64 0, .int .i64 0, .int .i64 0, .int .i64 0, .int .i64 0, .int .i64 0, .int .i64 0, .slice none 0 0, .int .i64 0] 123))) ∧ Hid (Blk ((w.alloc (.cells (lnA L (.slice a n c)) 53)).alloc (.cells #[.int .i64 0, .int .i64 0, .int .i64 0, .int .i64 0, .int .i64 0, .int .i64 0, .int .i64 0, .int .i64 0, .int .i64 0, .int .i64 0, .int .i64 0, .int .i64 0, .slice none 0 0, .int .i64 0] 123)) w.heap.size (lnA L (.slice a n c)) 53) ∧ Hid (Blk ((w.alloc (.cells (lnA L (.slice a n c)) 53)).alloc (.cells #[.int .i64 0, .int .i64 0, .int .i64 0, .int .i64 0, .int .i64 0, .int .i64 0, .int .i64 0, .int .i64 0, .int .i64 0, .int .i64 0, .int .i64 0, .int .i64 0, .slice none 0 0, .int .i64 0] 123)) (w.heap.size + 1) #[.int .i64 0, .int .i64 0, .int .i64 0, .int .i64 0, .int .i64 0, .int .i64 0, .int .i64 0, .int .i64 0, .int .i64 0, .int .i64 0, .int .i64 0, .int .i64 0, .slice none 0 0, .int .i64 0] 123) ∧ Hid (Row ((w.alloc (.cells (lnA L (.slice a n c)) 53)).alloc (.cells #[.int .i64 0, .int .i64 0, .int .i64 0, .int .i64 0, .int .i64 0, .int .i64 0, .int .i64 0, .int .i64 0, .int .i64 0, .int .i64 0, .int .i64 0, .int .i64 0, .slice none 0 0, .int .i64 0] 123)) (.slice a2 n2 c2) fl) := by
  refine ⟨hide ((below1L w _).alloc (by simp) _), hide ((Blk.new w (lnA L (.slice a n c)) 53).alloc _), hide ?_, hide ((hR.alloc _).alloc _)⟩
  have h := Blk.new (w.alloc (.cells (lnA L (.slice a n c)) 53)) #[.int .i64 0, .int .i64 0, .int .i64 0, .int .i64 0, .int .i64 0, .int .i64 0, .int .i64 0, .int .i64 0, .int .i64 0, .int .i64 0, .int .i64 0, .int .i64 0, .slice none 0 0, .int .i64 0] 123
  simpa using h
set_option maxHeartbeats 2000000 in
theorem cat_e {L : Ln} {a a2 : Option Addr} {n c n2 c2 : Nat} {fl : List Int} {w : World} {N E : Int} {B : Bool} (hR : Row w (.slice a2 n2 c2) fl) (HT : Hid (∀ W, Row W (.slice a2 n2 c2) fl → Calls (Tri Try.prog) 104 #[.agg (lnA L (.slice a n c)), .slice a2 n2 c2] W fun z w2 => z = .returned (.tuple #[.agg #[.int .i64 N, .bool B], .int .i64 E]) ∧ Below W.heap.size W w2)) (hE : (E != 0) = true) : Calls (Tri Try.prog) 91 #[.agg (lnA L (.slice a n c)), .slice a2 n2 c2] w fun z w' => z = .returned (.tuple #[.agg #[.int .i64 0, .int .i64 0, .int .i64 0, .int .i64 0, .int .i64 0, .int .i64 0, .int .i64 0, .int .i64 0, .int .i64 0, .int .i64 0, .int .i64 0, .int .i64 0, .slice none 0 0, .int .i64 0], .int .i64 E]) ∧ Below w.heap.size w w' := by
  obtain ⟨HB, HK, HZ, HR⟩ := cat_st (L := L) (a := a) (n := n) (c := c) hR
  have H := hide (unhide HT _ (unhide HR))
  clear hR HT
  go_enter (Tri.at (by decide) Try.func91), Try.ntmps91
  go_wp2_with fail
  refine (unhide H).mono ?_
  rintro z w1 ⟨rfl, hb⟩
  have bb : Below w1.heap.size w1 (w1.alloc (.cells #[.int .i64 N, .bool B] 139)) := below1L w1 _
  have HR1 : Hid (Row (w1.alloc (.cells #[.int .i64 N, .bool B] 139)) (.slice a2 n2 c2) fl) := hide (((unhide HR).below hb (Nat.le_refl _)).alloc _)
  have HF := hide (Blk.new w1 #[.int .i64 N, .bool B] 139)
  replace HB := hide (below_via (below_via (unhide HB) hb) bb)
  replace HK := hide ((((show Blk _ _ _ _ from unhide HK).keep hb)).keep bb)
  replace HZ := hide ((((show Blk _ _ _ _ from unhide HZ).keep hb)).keep bb)
  clear hb bb H HR
  obtain ⟨y0, y1, y2, y3, y4, y5, y6, y7, y8, y9, y10, y11, y12, y13⟩ := Blk.c14 (show Blk _ _ _ _ from unhide HZ)
  obtain ⟨v0, v1, v2, v3, v4, v5, v6, v7, v8, v9, v10, v11, v12, v13⟩ := Blk.z14 (show Blk _ _ _ _ from unhide HZ)
  go_wp2_with fail
  clear y0 v0 y1 v1 y2 v2 y3 v3 y4 v4 y5 v5 y6 v6 y7 v7 y8 v8 y9 v9 y10 v10 y11 v11 y12 v12 y13 v13
  generalize hW : World.setCell _ _ _ = W
  have k2 : Blk W (w.heap.size + 1) #[.int .i64 0, .int .i64 0, .int .i64 0, .int .i64 0, .int .i64 0, .int .i64 0, .int .i64 0, .int .i64 0, .int .i64 0, .int .i64 0, .int .i64 0, .int .i64 0, .slice none 0 0, .int .i64 0] 123 := by rw [← hW]; exact (show Blk _ _ _ _ from unhide HZ).wr14 _ _ _ _ _ _ _ _ _ _ _ _ _ _
  have k4 : Below w.heap.size w W := by rw [← hW]; exact below_putN (by omega) [_, _, _, _, _, _, _, _, _, _, _, _, _, _] 0 (unhide HB)
  clear hW
  obtain ⟨p0, p1, p2, p3, p4, p5, p6, p7, p8, p9, p10, p11, p12, p13⟩ := k2.c14
  exact bodyPost_ret (v := .tuple #[.agg #[.int .i64 0, .int .i64 0, .int .i64 0, .int .i64 0, .int .i64 0, .int .i64 0, .int .i64 0, .int .i64 0, .int .i64 0, .int .i64 0, .int .i64 0, .int .i64 0, .slice none 0 0, .int .i64 0], .int .i64 E]) (by simp [results, Try.results91, go_sem, p0, p1, p2, p3, p4, p5, p6, p7, p8, p9, p10, p11, p12, p13]) rfl ⟨rfl, k4⟩
set_option maxHeartbeats 2000000 in
theorem cat_n {L : Ln} {a a2 : Option Addr} {n c n2 c2 : Nat} {fl : List Int} {w : World} {N E : Int} {B : Bool} (hR : Row w (.slice a2 n2 c2) fl) (HT : Hid (∀ W, Row W (.slice a2 n2 c2) fl → Calls (Tri Try.prog) 104 #[.agg (lnA L (.slice a n c)), .slice a2 n2 c2] W fun z w2 => z = .returned (.tuple #[.agg #[.int .i64 N, .bool B], .int .i64 E]) ∧ Below W.heap.size W w2)) (hE : E = 0) (hN : N < 1) : Calls (Tri Try.prog) 91 #[.agg (lnA L (.slice a n c)), .slice a2 n2 c2] w fun z w' => z = .returned (.tuple #[.agg #[.int .i64 0, .int .i64 0, .int .i64 0, .int .i64 0, .int .i64 0, .int .i64 0, .int .i64 0, .int .i64 0, .int .i64 0, .int .i64 0, .int .i64 0, .int .i64 0, .slice none 0 0, .int .i64 0], .int .i64 2]) ∧ Below w.heap.size w w' := by
  subst hE
  have t0 : ((0 : Int) != 0) = false := rfl
  have t1 : decide (N < 1) = true := decide_eq_true hN
  obtain ⟨HB, HK, HZ, HR⟩ := cat_st (L := L) (a := a) (n := n) (c := c) hR
  have H := hide (unhide HT _ (unhide HR))
  clear hR HT
  go_enter (Tri.at (by decide) Try.func91), Try.ntmps91
  go_wp2_with fail
  refine (unhide H).mono ?_
  rintro z w1 ⟨rfl, hb⟩
  have bb : Below w1.heap.size w1 (w1.alloc (.cells #[.int .i64 N, .bool B] 139)) := below1L w1 _
  have HR1 : Hid (Row (w1.alloc (.cells #[.int .i64 N, .bool B] 139)) (.slice a2 n2 c2) fl) := hide (((unhide HR).below hb (Nat.le_refl _)).alloc _)
  have HF := hide (Blk.new w1 #[.int .i64 N, .bool B] 139)
  replace HB := hide (below_via (below_via (unhide HB) hb) bb)
  replace HK := hide ((((show Blk _ _ _ _ from unhide HK).keep hb)).keep bb)
  replace HZ := hide ((((show Blk _ _ _ _ from unhide HZ).keep hb)).keep bb)
  clear hb bb H HR
  have g0 := (show Blk _ _ _ _ from unhide HF).at 0 (.int .i64 N) rfl
  obtain ⟨y0, y1, y2, y3, y4, y5, y6, y7, y8, y9, y10, y11, y12, y13⟩ := Blk.c14 (show Blk _ _ _ _ from unhide HZ)
  obtain ⟨v0, v1, v2, v3, v4, v5, v6, v7, v8, v9, v10, v11, v12, v13⟩ := Blk.z14 (show Blk _ _ _ _ from unhide HZ)
  go_wp2_with fail
  clear y0 v0 y1 v1 y2 v2 y3 v3 y4 v4 y5 v5 y6 v6 y7 v7 y8 v8 y9 v9 y10 v10 y11 v11 y12 v12 y13 v13
  generalize hW : World.setCell _ _ _ = W
  have k2 : Blk W (w.heap.size + 1) #[.int .i64 0, .int .i64 0, .int .i64 0, .int .i64 0, .int .i64 0, .int .i64 0, .int .i64 0, .int .i64 0, .int .i64 0, .int .i64 0, .int .i64 0, .int .i64 0, .slice none 0 0, .int .i64 0] 123 := by rw [← hW]; exact (show Blk _ _ _ _ from unhide HZ).wr14 _ _ _ _ _ _ _ _ _ _ _ _ _ _
  have k4 : Below w.heap.size w W := by rw [← hW]; exact below_putN (by omega) [_, _, _, _, _, _, _, _, _, _, _, _, _, _] 0 (unhide HB)
  clear hW
  obtain ⟨p0, p1, p2, p3, p4, p5, p6, p7, p8, p9, p10, p11, p12, p13⟩ := k2.c14
  exact bodyPost_ret (v := .tuple #[.agg #[.int .i64 0, .int .i64 0, .int .i64 0, .int .i64 0, .int .i64 0, .int .i64 0, .int .i64 0, .int .i64 0, .int .i64 0, .int .i64 0, .int .i64 0, .int .i64 0, .slice none 0 0, .int .i64 0], .int .i64 2]) (by simp [results, Try.results91, go_sem, p0, p1, p2, p3, p4, p5, p6, p7, p8, p9, p10, p11, p12, p13]) rfl ⟨rfl, k4⟩
set_option maxHeartbeats 4000000 in
theorem cat_o {L : Ln} {a a2 : Option Addr} {n c n2 c2 : Nat} {fl : List Int} {w : World} {N E : Int} {B : Bool} (hR : Row w (.slice a2 n2 c2) fl) (HT : Hid (∀ W, Row W (.slice a2 n2 c2) fl → Calls (Tri Try.prog) 104 #[.agg (lnA L (.slice a n c)), .slice a2 n2 c2] W fun z w2 => z = .returned (.tuple #[.agg #[.int .i64 N, .bool B], .int .i64 E]) ∧ Below W.heap.size W w2)) (b1 : -1125899906842624 ≤ L.adj) (b2 : L.adj ≤ 1125899906842624) (b3 : 0 ≤ L.gr) (b4 : L.gr ≤ 1125899906842624) (hS : Sl a2 n2 c2) (hl : fl.length ≤ 1000000) (hE : E = 0) (hN : ¬ N < 1) (hN2 : N ≤ 4611686018427387904) (hB : rightB (adjK L N) fl = false) : Calls (Tri Try.prog) 91 #[.agg (lnA L (.slice a n c)), .slice a2 n2 c2] w fun z w' => z = .returned (.tuple #[.agg #[.int .i64 0, .int .i64 0, .int .i64 0, .int .i64 0, .int .i64 0, .int .i64 0, .int .i64 0, .int .i64 0, .int .i64 0, .int .i64 0, .int .i64 0, .int .i64 0, .slice none 0 0, .int .i64 0], .int .i64 3]) ∧ Below w.heap.size w w' := by
  subst hE
  have t0 : ((0 : Int) != 0) = false := rfl
  have t1 : decide (N < 1) = false := decide_eq_false hN
  have HA : Hid (∀ W, Row W (.slice a2 n2 c2) fl → Calls (Tri Try.prog) 130 #[.agg (lnA L (.slice a n c)), .int .i64 N, .slice a2 n2 c2] W fun z w2 => ∃ a3 c3, z = .returned (.agg (lnA (adjK L N) (.slice a3 fl.length c3))) ∧ Row w2 (.slice a3 fl.length c3) fl ∧ Sl a3 fl.length c3 ∧ (∀ x, a3 = some x → W.heap.size ≤ x.block) ∧ Below W.heap.size W w2) := hide (fun W h => adj_any b1 b2 b3 b4 (by omega) hN2 h hS hl)
  have HT9 : Hid (∀ W a3 c3, Row W (.slice a3 fl.length c3) fl → Tells 31 W #[.agg (lnA (adjK L N) (.slice a3 fl.length c3))] false) := hide (fun W a3 c3 h => hB ▸ right_any (adjK L N) a3 fl.length c3 fl W h)
  unfold Tells at HT9
  clear hB hS hl
  obtain ⟨HB, HK, HZ, HR⟩ := cat_st (L := L) (a := a) (n := n) (c := c) hR
  have H := hide (unhide HT _ (unhide HR))
  clear hR HT
  go_enter (Tri.at (by decide) Try.func91), Try.ntmps91
  go_wp2_with fail
  refine (unhide H).mono ?_
  rintro z w1 ⟨rfl, hb⟩
  have bb : Below w1.heap.size w1 (w1.alloc (.cells #[.int .i64 N, .bool B] 139)) := below1L w1 _
  have HR1 : Hid (Row (w1.alloc (.cells #[.int .i64 N, .bool B] 139)) (.slice a2 n2 c2) fl) := hide (((unhide HR).below hb (Nat.le_refl _)).alloc _)
  have HF := hide (Blk.new w1 #[.int .i64 N, .bool B] 139)
  replace HB := hide (below_via (below_via (unhide HB) hb) bb)
  replace HK := hide ((((show Blk _ _ _ _ from unhide HK).keep hb)).keep bb)
  replace HZ := hide ((((show Blk _ _ _ _ from unhide HZ).keep hb)).keep bb)
  clear hb bb H HR
  obtain ⟨x0, x1, x2, x3, x4, x5, x6, x7, x8, x9, x10, x11, x12⟩ := Blk.c13 (show Blk _ _ _ _ from unhide HK)
  have g0 := (show Blk _ _ _ _ from unhide HF).at 0 (.int .i64 N) rfl
  go_wp2_with fail
  refine (unhide HA _ (unhide HR1)).mono ?_
  rintro z w2 ⟨a3, c3, rfl, hr, hs, hf, hb⟩
  clear x0 x1 x2 x3 x4 x5 x6 x7 x8 x9 x10 x11 x12
  have HN3 : Hid (∀ x, a3 = some x → w.heap.size + 1 < x.block) := hide (fun x hx => Nat.lt_of_lt_of_le (show Blk _ _ _ _ from unhide HZ).lt (hf x hx))
  replace HB := hide (below_via (unhide HB) hb)
  replace HK := hide ((show Blk _ _ _ _ from unhide HK).keep hb)
  replace HZ := hide ((show Blk _ _ _ _ from unhide HZ).keep hb)
  replace HF := hide ((show Blk _ _ _ _ from unhide HF).keep hb)
  have HS3 := hide hs
  replace HT9 := hide (unhide HT9 (w2.alloc (.cells (lnA (adjK L N) (.slice a3 fl.length c3)) 53)) a3 c3 (hr.alloc _))
  have HR3 : Hid (Row (w2.alloc (.cells (lnA (adjK L N) (.slice a3 fl.length c3)) 53)) (.slice a3 fl.length c3) fl) := hide (hr.alloc _)
  have bb : Below w2.heap.size w2 (w2.alloc (.cells (lnA (adjK L N) (.slice a3 fl.length c3)) 53)) := below1L w2 _
  have HKn := hide (Blk.new w2 (lnA (adjK L N) (.slice a3 fl.length c3)) 53)
  replace HB := hide (below_via (unhide HB) bb)
  replace HK := hide ((show Blk _ _ _ _ from unhide HK).keep bb)
  replace HZ := hide ((show Blk _ _ _ _ from unhide HZ).keep bb)
  replace HF := hide ((show Blk _ _ _ _ from unhide HF).keep bb)
  clear hb bb hr hs hf g0 HR1 HA
  generalize hK : adjK L N = K at *
  replace hK := hide hK
  generalize hn3 : fl.length = n3 at *
  replace hn3 := hide hn3
  go_wp2_with fail
  refine (unhide HT9).mono ?_
  rintro z w3 ⟨rfl, hb⟩
  replace HB := hide (below_via (unhide HB) hb)
  replace HK := hide ((show Blk _ _ _ _ from unhide HK).keep hb)
  replace HZ := hide ((show Blk _ _ _ _ from unhide HZ).keep hb)
  replace HF := hide ((show Blk _ _ _ _ from unhide HF).keep hb)
  replace HKn := hide ((show Blk _ _ _ _ from unhide HKn).keep hb)
  replace HR3 := hide ((unhide HR3).below hb (Nat.le_refl _))
  clear hb HT9
  obtain ⟨y0, y1, y2, y3, y4, y5, y6, y7, y8, y9, y10, y11, y12, y13⟩ := Blk.c14 (show Blk _ _ _ _ from unhide HZ)
  obtain ⟨v0, v1, v2, v3, v4, v5, v6, v7, v8, v9, v10, v11, v12, v13⟩ := Blk.z14 (show Blk _ _ _ _ from unhide HZ)
  go_wp2_with fail
  clear y0 v0 y1 v1 y2 v2 y3 v3 y4 v4 y5 v5 y6 v6 y7 v7 y8 v8 y9 v9 y10 v10 y11 v11 y12 v12 y13 v13
  generalize hW : World.setCell _ _ _ = W
  have k2 : Blk W (w.heap.size + 1) #[.int .i64 0, .int .i64 0, .int .i64 0, .int .i64 0, .int .i64 0, .int .i64 0, .int .i64 0, .int .i64 0, .int .i64 0, .int .i64 0, .int .i64 0, .int .i64 0, .slice none 0 0, .int .i64 0] 123 := by rw [← hW]; exact (show Blk _ _ _ _ from unhide HZ).wr14 _ _ _ _ _ _ _ _ _ _ _ _ _ _
  have k4 : Below w.heap.size w W := by rw [← hW]; exact below_putN (by omega) [_, _, _, _, _, _, _, _, _, _, _, _, _, _] 0 (unhide HB)
  clear hW
  obtain ⟨p0, p1, p2, p3, p4, p5, p6, p7, p8, p9, p10, p11, p12, p13⟩ := k2.c14
  exact bodyPost_ret (v := .tuple #[.agg #[.int .i64 0, .int .i64 0, .int .i64 0, .int .i64 0, .int .i64 0, .int .i64 0, .int .i64 0, .int .i64 0, .int .i64 0, .int .i64 0, .int .i64 0, .int .i64 0, .slice none 0 0, .int .i64 0], .int .i64 3]) (by simp [results, Try.results91, go_sem, p0, p1, p2, p3, p4, p5, p6, p7, p8, p9, p10, p11, p12, p13]) rfl ⟨rfl, k4⟩
set_option maxHeartbeats 4000000 in
theorem cat_y {L : Ln} {a a2 : Option Addr} {n c n2 c2 : Nat} {fl : List Int} {w : World} {N E : Int} {B : Bool} (hR : Row w (.slice a2 n2 c2) fl) (HT : Hid (∀ W, Row W (.slice a2 n2 c2) fl → Calls (Tri Try.prog) 104 #[.agg (lnA L (.slice a n c)), .slice a2 n2 c2] W fun z w2 => z = .returned (.tuple #[.agg #[.int .i64 N, .bool B], .int .i64 E]) ∧ Below W.heap.size W w2)) (b1 : -1125899906842624 ≤ L.adj) (b2 : L.adj ≤ 1125899906842624) (b3 : 0 ≤ L.gr) (b4 : L.gr ≤ 1125899906842624) (hS : Sl a2 n2 c2) (hl : fl.length ≤ 1000000) (hE : E = 0) (hN : ¬ N < 1) (hN2 : N ≤ 4611686018427387904) (hB : rightB (adjK L N) fl = true) : Calls (Tri Try.prog) 91 #[.agg (lnA L (.slice a n c)), .slice a2 n2 c2] w fun z w' => ∃ a3 c3, z = .returned (.tuple #[.agg #[.int .i64 (adjK L N).id, .int .i64 (adjK L N).st, .int .i64 (adjK L N).be, .int .i64 (adjK L N).out, .int .i64 (adjK L N).rt, .int .i64 (adjK L N).gr, .int .i64 (adjK L N).due, .int .i64 (adjK L N).inc, .int .i64 (adjK L N).got, .int .i64 (adjK L N).adj, .int .i64 (adjK L N).wri, .int .i64 (adjK L N).rcv, .slice a3 fl.length c3, .int .i64 (N - L.gr)], .int .i64 0]) ∧ Row w' (.slice a3 fl.length c3) fl ∧ Sl a3 fl.length c3 ∧ (∀ x, a3 = some x → w.heap.size ≤ x.block) ∧ Below w.heap.size w w' := by
  subst hE
  have t0 : ((0 : Int) != 0) = false := rfl
  have t1 : decide (N < 1) = false := decide_eq_false hN
  have HA : Hid (∀ W, Row W (.slice a2 n2 c2) fl → Calls (Tri Try.prog) 130 #[.agg (lnA L (.slice a n c)), .int .i64 N, .slice a2 n2 c2] W fun z w2 => ∃ a3 c3, z = .returned (.agg (lnA (adjK L N) (.slice a3 fl.length c3))) ∧ Row w2 (.slice a3 fl.length c3) fl ∧ Sl a3 fl.length c3 ∧ (∀ x, a3 = some x → W.heap.size ≤ x.block) ∧ Below W.heap.size W w2) := hide (fun W h => adj_any b1 b2 b3 b4 (by omega) hN2 h hS hl)
  have HT9 : Hid (∀ W a3 c3, Row W (.slice a3 fl.length c3) fl → Tells 31 W #[.agg (lnA (adjK L N) (.slice a3 fl.length c3))] true) := hide (fun W a3 c3 h => hB ▸ right_any (adjK L N) a3 fl.length c3 fl W h)
  unfold Tells at HT9
  have mo : Hid (N - L.gr = N - L.gr) := hide rfl
  clear hB hS hl
  obtain ⟨HB, HK, HZ, HR⟩ := cat_st (L := L) (a := a) (n := n) (c := c) hR
  have H := hide (unhide HT _ (unhide HR))
  clear hR HT
  go_enter (Tri.at (by decide) Try.func91), Try.ntmps91
  go_wp2_with fail
  refine (unhide H).mono ?_
  rintro z w1 ⟨rfl, hb⟩
  have bb : Below w1.heap.size w1 (w1.alloc (.cells #[.int .i64 N, .bool B] 139)) := below1L w1 _
  have HR1 : Hid (Row (w1.alloc (.cells #[.int .i64 N, .bool B] 139)) (.slice a2 n2 c2) fl) := hide (((unhide HR).below hb (Nat.le_refl _)).alloc _)
  have HF := hide (Blk.new w1 #[.int .i64 N, .bool B] 139)
  replace HB := hide (below_via (below_via (unhide HB) hb) bb)
  replace HK := hide ((((show Blk _ _ _ _ from unhide HK).keep hb)).keep bb)
  replace HZ := hide ((((show Blk _ _ _ _ from unhide HZ).keep hb)).keep bb)
  clear hb bb H HR
  obtain ⟨x0, x1, x2, x3, x4, x5, x6, x7, x8, x9, x10, x11, x12⟩ := Blk.c13 (show Blk _ _ _ _ from unhide HK)
  have g0 := (show Blk _ _ _ _ from unhide HF).at 0 (.int .i64 N) rfl
  go_wp2_with fail
  refine (unhide HA _ (unhide HR1)).mono ?_
  rintro z w2 ⟨a3, c3, rfl, hr, hs, hf, hb⟩
  clear x0 x1 x2 x3 x4 x5 x6 x7 x8 x9 x10 x11 x12
  have HN3 : Hid (∀ x, a3 = some x → w.heap.size + 1 < x.block) := hide (fun x hx => Nat.lt_of_lt_of_le (show Blk _ _ _ _ from unhide HZ).lt (hf x hx))
  replace HB := hide (below_via (unhide HB) hb)
  replace HK := hide ((show Blk _ _ _ _ from unhide HK).keep hb)
  replace HZ := hide ((show Blk _ _ _ _ from unhide HZ).keep hb)
  replace HF := hide ((show Blk _ _ _ _ from unhide HF).keep hb)
  have HS3 := hide hs
  replace HT9 := hide (unhide HT9 (w2.alloc (.cells (lnA (adjK L N) (.slice a3 fl.length c3)) 53)) a3 c3 (hr.alloc _))
  have HR3 : Hid (Row (w2.alloc (.cells (lnA (adjK L N) (.slice a3 fl.length c3)) 53)) (.slice a3 fl.length c3) fl) := hide (hr.alloc _)
  have bb : Below w2.heap.size w2 (w2.alloc (.cells (lnA (adjK L N) (.slice a3 fl.length c3)) 53)) := below1L w2 _
  have HKn := hide (Blk.new w2 (lnA (adjK L N) (.slice a3 fl.length c3)) 53)
  replace HB := hide (below_via (unhide HB) bb)
  replace HK := hide ((show Blk _ _ _ _ from unhide HK).keep bb)
  replace HZ := hide ((show Blk _ _ _ _ from unhide HZ).keep bb)
  replace HF := hide ((show Blk _ _ _ _ from unhide HF).keep bb)
  clear hb bb hr hs hf g0 HR1 HA
  generalize hK : adjK L N = K at *
  replace hK := hide hK
  generalize hn3 : fl.length = n3 at *
  replace hn3 := hide hn3
  go_wp2_with fail
  refine (unhide HT9).mono ?_
  rintro z w3 ⟨rfl, hb⟩
  replace HB := hide (below_via (unhide HB) hb)
  replace HK := hide ((show Blk _ _ _ _ from unhide HK).keep hb)
  replace HZ := hide ((show Blk _ _ _ _ from unhide HZ).keep hb)
  replace HF := hide ((show Blk _ _ _ _ from unhide HF).keep hb)
  replace HKn := hide ((show Blk _ _ _ _ from unhide HKn).keep hb)
  replace HR3 := hide ((unhide HR3).below hb (Nat.le_refl _))
  clear hb HT9
  obtain ⟨y0, y1, y2, y3, y4, y5, y6, y7, y8, y9, y10, y11, y12, y13⟩ := Blk.c14 (show Blk _ _ _ _ from unhide HZ)
  obtain ⟨v0, v1, v2, v3, v4, v5, v6, v7, v8, v9, v10, v11, v12, v13⟩ := Blk.z14 (show Blk _ _ _ _ from unhide HZ)
  obtain ⟨x0, x1, x2, x3, x4, x5, x6, x7, x8, x9, x10, x11, x12⟩ := Blk.c13 (show Blk _ _ _ _ from unhide HKn)
  have g0 := (show Blk _ _ _ _ from unhide HF).at 0 (.int .i64 N) rfl
  have g5 := (show Blk _ _ _ _ from unhide HK).at 5 (.int .i64 L.gr) rfl
  go_wp2_with fail
  clear y0 v0 y1 v1 y2 v2 y3 v3 y4 v4 y5 v5 y6 v6 y7 v7 y8 v8 y9 v9 y10 v10 y11 v11 y12 v12 y13 v13 x0 x1 x2 x3 x4 x5 x6 x7 x8 x9 x10 x11 x12 g0 g5
  generalize hW : World.setCell _ _ _ = W
  have k2 : Blk W (w.heap.size + 1) #[.int .i64 K.id, .int .i64 K.st, .int .i64 K.be, .int .i64 K.out, .int .i64 K.rt, .int .i64 K.gr, .int .i64 K.due, .int .i64 K.inc, .int .i64 K.got, .int .i64 K.adj, .int .i64 K.wri, .int .i64 K.rcv, .slice a3 n3 c3, .int .i64 (N - L.gr)] 123 := by rw [← hW]; exact (show Blk _ _ _ _ from unhide HZ).wr14 _ _ _ _ _ _ _ _ _ _ _ _ _ _
  have k4 : Below w.heap.size w W := by rw [← hW]; exact below_putN (by omega) [_, _, _, _, _, _, _, _, _, _, _, _, _, _] 0 (unhide HB)
  have k5 : Row W (.slice a3 n3 c3) fl := by rw [← hW]; exact Row.offN (fun x hx => by have := unhide HN3 x hx; omega) [_, _, _, _, _, _, _, _, _, _, _, _, _, _] 0 (unhide HR3)
  have k6 : ∀ x, a3 = some x → w.heap.size ≤ x.block := fun x hx => by have := unhide HN3 x hx; omega
  have k7 := unhide HS3
  clear hW
  obtain ⟨p0, p1, p2, p3, p4, p5, p6, p7, p8, p9, p10, p11, p12, p13⟩ := k2.c14
  have e3 := unhide hn3
  have eK := unhide hK
  subst eK
  subst e3
  exact bodyPost_ret (v := .tuple #[.agg #[.int .i64 (adjK L N).id, .int .i64 (adjK L N).st, .int .i64 (adjK L N).be, .int .i64 (adjK L N).out, .int .i64 (adjK L N).rt, .int .i64 (adjK L N).gr, .int .i64 (adjK L N).due, .int .i64 (adjK L N).inc, .int .i64 (adjK L N).got, .int .i64 (adjK L N).adj, .int .i64 (adjK L N).wri, .int .i64 (adjK L N).rcv, .slice a3 fl.length c3, .int .i64 (N - L.gr)], .int .i64 0]) (by simp [results, Try.results91, go_sem, p0, p1, p2, p3, p4, p5, p6, p7, p8, p9, p10, p11, p12, p13]) rfl ⟨a3, c3, rfl, k5, k7, k6, k4⟩
set_option maxHeartbeats 2000000 in
theorem clo_90 {L K : Ln} {a : Option Addr} {n c n3 : Nat} {l3 : List Int} {m e : Int} {w : World} {v : Value} {fb : Nat} (HC : Hid (∀ W, Below w.heap.size w W → Calls (Tri Try.prog) 91 #[.agg (lnA L (.slice a n c)), v] W fun z w2 => ∃ a3 c3, z = .returned (.tuple #[.agg #[.int .i64 K.id, .int .i64 K.st, .int .i64 K.be, .int .i64 K.out, .int .i64 K.rt, .int .i64 K.gr, .int .i64 K.due, .int .i64 K.inc, .int .i64 K.got, .int .i64 K.adj, .int .i64 K.wri, .int .i64 K.rcv, .slice a3 n3 c3, .int .i64 m], .int .i64 e]) ∧ Row w2 (.slice a3 n3 c3) l3 ∧ Sl a3 n3 c3 ∧ (∀ x, a3 = some x → W.heap.size ≤ x.block) ∧ Below W.heap.size W w2)) (hp : w.cell? ⟨fb, 0, none⟩ = some v) : Calls (Tri Try.prog) 90 #[.agg (lnA L (.slice a n c)), .pointer (some ⟨fb, 0, none⟩)] w fun z w2 => ∃ a3 c3, z = .returned (.tuple #[.agg #[.int .i64 K.id, .int .i64 K.st, .int .i64 K.be, .int .i64 K.out, .int .i64 K.rt, .int .i64 K.gr, .int .i64 K.due, .int .i64 K.inc, .int .i64 K.got, .int .i64 K.adj, .int .i64 K.wri, .int .i64 K.rcv, .slice a3 n3 c3, .int .i64 m], .int .i64 e]) ∧ Row w2 (.slice a3 n3 c3) l3 ∧ Sl a3 n3 c3 ∧ (∀ x, a3 = some x → w.heap.size ≤ x.block) ∧ Below w.heap.size w w2 := by
  have HB : Hid (Below w.heap.size w ((w.alloc (.cells (lnA L (.slice a n c)) 53)).alloc (.cells #[.int .i64 0, .int .i64 0, .int .i64 0, .int .i64 0, .int .i64 0, .int .i64 0, .int .i64 0, .int .i64 0, .int .i64 0, .int .i64 0, .int .i64 0, .int .i64 0, .slice none 0 0, .int .i64 0] 123))) := hide ((below1L w _).alloc (by simp) _)
  have HZ : Hid (Blk ((w.alloc (.cells (lnA L (.slice a n c)) 53)).alloc (.cells #[.int .i64 0, .int .i64 0, .int .i64 0, .int .i64 0, .int .i64 0, .int .i64 0, .int .i64 0, .int .i64 0, .int .i64 0, .int .i64 0, .int .i64 0, .int .i64 0, .slice none 0 0, .int .i64 0] 123)) (w.heap.size + 1) #[.int .i64 0, .int .i64 0, .int .i64 0, .int .i64 0, .int .i64 0, .int .i64 0, .int .i64 0, .int .i64 0, .int .i64 0, .int .i64 0, .int .i64 0, .int .i64 0, .slice none 0 0, .int .i64 0] 123) := hide (by have h := Blk.new (w.alloc (.cells (lnA L (.slice a n c)) 53)) #[.int .i64 0, .int .i64 0, .int .i64 0, .int .i64 0, .int .i64 0, .int .i64 0, .int .i64 0, .int .i64 0, .int .i64 0, .int .i64 0, .int .i64 0, .int .i64 0, .slice none 0 0, .int .i64 0] 123; simpa using h)
  have hq := cell_old (cell_old hp (.cells (lnA L (.slice a n c)) 53)) (.cells #[.int .i64 0, .int .i64 0, .int .i64 0, .int .i64 0, .int .i64 0, .int .i64 0, .int .i64 0, .int .i64 0, .int .i64 0, .int .i64 0, .int .i64 0, .int .i64 0, .slice none 0 0, .int .i64 0] 123)
  replace HC := hide (unhide HC _ (unhide HB))
  go_enter (Tri.at (by decide) Try.func90), Try.ntmps90
  go_wp2_with fail
  refine (unhide HC).mono ?_
  rintro z w1 ⟨a3, c3, rfl, hr, hs, hf, hb⟩
  have HN3 : Hid (∀ x, a3 = some x → w.heap.size + 1 < x.block) := hide (fun x hx => Nat.lt_of_lt_of_le (show Blk _ _ _ _ from unhide HZ).lt (hf x hx))
  have HR3 := hide hr
  have HS3 := hide hs
  replace HB := hide (below_via (unhide HB) hb)
  replace HZ := hide ((show Blk _ _ _ _ from unhide HZ).keep hb)
  clear hb hr hs hf hq hp HC
  obtain ⟨y0, y1, y2, y3, y4, y5, y6, y7, y8, y9, y10, y11, y12, y13⟩ := Blk.c14 (show Blk _ _ _ _ from unhide HZ)
  obtain ⟨v0, v1, v2, v3, v4, v5, v6, v7, v8, v9, v10, v11, v12, v13⟩ := Blk.z14 (show Blk _ _ _ _ from unhide HZ)
  go_wp2_with fail
  clear y0 v0 y1 v1 y2 v2 y3 v3 y4 v4 y5 v5 y6 v6 y7 v7 y8 v8 y9 v9 y10 v10 y11 v11 y12 v12 y13 v13
  generalize hW : World.setCell _ _ _ = W
  have k2 : Blk W (w.heap.size + 1) #[.int .i64 K.id, .int .i64 K.st, .int .i64 K.be, .int .i64 K.out, .int .i64 K.rt, .int .i64 K.gr, .int .i64 K.due, .int .i64 K.inc, .int .i64 K.got, .int .i64 K.adj, .int .i64 K.wri, .int .i64 K.rcv, .slice a3 n3 c3, .int .i64 m] 123 := by rw [← hW]; exact (show Blk _ _ _ _ from unhide HZ).wr14 _ _ _ _ _ _ _ _ _ _ _ _ _ _
  have k4 : Below w.heap.size w W := by rw [← hW]; exact below_putN (by omega) [_, _, _, _, _, _, _, _, _, _, _, _, _, _] 0 (unhide HB)
  have k5 : Row W (.slice a3 n3 c3) l3 := by rw [← hW]; exact Row.offN (fun x hx => by have := unhide HN3 x hx; omega) [_, _, _, _, _, _, _, _, _, _, _, _, _, _] 0 (unhide HR3)
  have k6 : ∀ x, a3 = some x → w.heap.size ≤ x.block := fun x hx => by have := unhide HN3 x hx; omega
  have k7 := unhide HS3
  clear hW
  obtain ⟨p0, p1, p2, p3, p4, p5, p6, p7, p8, p9, p10, p11, p12, p13⟩ := k2.c14
  exact bodyPost_ret (v := .tuple #[.agg #[.int .i64 K.id, .int .i64 K.st, .int .i64 K.be, .int .i64 K.out, .int .i64 K.rt, .int .i64 K.gr, .int .i64 K.due, .int .i64 K.inc, .int .i64 K.got, .int .i64 K.adj, .int .i64 K.wri, .int .i64 K.rcv, .slice a3 n3 c3, .int .i64 m], .int .i64 e]) (by simp [results, Try.results90, go_sem, p0, p1, p2, p3, p4, p5, p6, p7, p8, p9, p10, p11, p12, p13]) rfl ⟨a3, c3, rfl, k5, k7, k6, k4⟩
end Go.Proofs.Ytpeoabopeihadaa.Mn
