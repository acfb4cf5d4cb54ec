/- LoanLives, lone. -/
import Derived.Test.YtpeoabopeihadaaULLr
import Derived.Test.YtpeoabopeihadaaULLg
import Derived.Test.YtpeoabopeihadaaUS
set_option linter.unusedVariables false
set_option linter.unusedSimpArgs false
set_option linter.unusedSectionVars false
namespace Go.Proofs.Ytpeoabopeihadaa.Mn
open Go.RowKit
attribute [local simp] Tri.typeInfo Tri.sizeOf Tri.underlying Tri.runUnderlying Tri.isAgg Tri.zeroValue Tri.depth Tri.stoodInHeld Tri.eqGuardType Tri.call15 Tri.call26 Tri.call27 Tri.call31 Tri.call33 Tri.call36 Tri.call37 Tri.call44 Tri.call46 Tri.call49 Tri.call52 Tri.call54 Tri.call65 Tri.call66 Tri.call68 Tri.call69 Tri.call70 Tri.call72 Tri.call73 Tri.call74 Tri.call75 Tri.call81 Tri.call82 Tri.call83 Tri.call84 Tri.call85 Tri.call86 Tri.call87 Tri.call88 Tri.call95 Tri.call99 Tri.call100 Tri.call101 Tri.call106 Tri.call116 Tri.call117 Tri.call118 Tri.call119 Tri.call120 Tri.call122 Tri.call123 Tri.call124 Tri.call125 Tri.call126 Tri.call143 Tri.call144 Tri.call145 Tri.call146 Tri.call147 Tri.call156 Tri.call157 Tri.call159 Tri.call160 Tri.call161 Tri.call162 Tri.call163 Tri.call164 Tri.call165 Tri.call175 Tri.call176 Tri.call186 Tri.call188 Tri.call205
def dCells (d : Int × Int) : List Value := [.int .i64 d.1, .int .i64 d.2]
def LivesL (w : World) (out : Int) (v u : Value) : Prop := Calls (Tri Try.prog) 8 #[.int .i64 out, v, u] w fun z w' => z = .returned (.bool true) ∧ Below w.heap.size w w'
theorem Blk.c4 {w : World} {b : Nat} {v0 v1 v2 v3 : Value} {T : TypeId} (h : Blk w b #[v0, v1, v2, v3] T) : w.cell? ⟨b, 0, none⟩ = some v0 ∧ w.cell? ⟨b, 1, none⟩ = some v1 ∧ w.cell? ⟨b, 2, none⟩ = some v2 ∧ w.cell? ⟨b, 3, none⟩ = some v3 := ⟨h.at 0 _ rfl, h.at 1 _ rfl, h.at 2 _ rfl, h.at 3 _ rfl⟩
theorem neq65 (w : World) : (binOp .neq 65 (.agg #[.int .i64 0, .int .i64 0, .int .i64 0, .int .i64 0]) (.agg #[.int .i64 0, .int .i64 0, .int .i64 0, .int .i64 0])).run (Tri Try.prog) w = .ok (.bool false) w := by
  have ht : (Tri Try.prog).underlying 65 = some (.struct ((Tri Try.prog).fieldsOf 65)) := by kernel_rfl
  have hp : (Tri Try.prog).stoodInHeld 65 = false := by kernel_rfl
  have hf := TypeDesc.struct.inj (Option.some.inj (ht.symm.trans (Tri.und Try.underlying65)))
  have key : (Op.equalIn (9999 + 1) 65 (.agg #[.int .i64 0, .int .i64 0, .int .i64 0, .int .i64 0]) (.agg #[.int .i64 0, .int .i64 0, .int .i64 0, .int .i64 0])).run (Tri Try.prog) w = .ok true w := by
    rw [run_equalIn_agg w 9999 65 _ _ ht hp, hf]
    simp [Op.eqFields, Go.part, isAgg, go_sem, (Tri.und Try.underlying2)]
  simp only [binOp]
  simp [Op.equal, Op.maxDepth, key]
theorem ll_a (out : Int) (a a2 : Option Addr) (n c n2 c2 : Nat) (w : World) (t0 : decide ((40 : Int) < (n : Int)) = true) : LivesL w out (.slice a n c) (.slice a2 n2 c2) := by
  unfold LivesL
  have HA := hide aliveL
  unfold AliveL at HA
  go_enter (Tri.at (by decide) Try.func8), Try.ntmps8
  go_wp2_with fail
  refine (unhide HA _).mono ?_
  rintro z w1 ⟨rfl, hb⟩
  have HB := hide hb
  clear HA
  clear hb
  go_wp2_with fail
  go_ret
  exact ⟨rfl, unhide HB⟩
theorem ll_b (out : Int) (a a2 : Option Addr) (n c n2 c2 : Nat) (w : World) (t0 : decide ((40 : Int) < (n : Int)) = false) (t1 : decide ((200 : Int) < (n2 : Int)) = true) : LivesL w out (.slice a n c) (.slice a2 n2 c2) := by
  unfold LivesL
  have HA := hide aliveL
  unfold AliveL at HA
  go_enter (Tri.at (by decide) Try.func8), Try.ntmps8
  go_wp2_with fail
  refine (unhide HA _).mono ?_
  rintro z w1 ⟨rfl, hb⟩
  have HB := hide hb
  clear HA
  clear hb
  go_wp2_with fail
  go_ret
  exact ⟨rfl, unhide HB⟩
structure LvW (w wr : World) (lb ab : Nat) (L : Ln) (A : Mv) (a3 : Option Addr) (c3 : Nat) (l : List Int) : Prop where
  inv : LvI L l A
  lblk : Blk wr lb (lnA L (.slice a3 l.length c3)) 53
  ablk : Blk wr ab #[.int .i64 A.i, .int .i64 A.p, .int .i64 A.w, .int .i64 A.r] 65
  row : Row wr (.slice a3 l.length c3) l
  sl : Sl a3 l.length c3
  far : ∀ x, a3 = some x → x.block ≠ lb ∧ x.block ≠ ab
  bel : Below w.heap.size w wr
theorem LvW.keep {w wr w' : World} {lb ab : Nat} {L : Ln} {A : Mv} {a3 : Option Addr} {c3 : Nat} {l : List Int} (h : LvW w wr lb ab L A a3 c3 l) (k : Below wr.heap.size wr w') : LvW w w' lb ab L A a3 c3 l := ⟨h.inv, h.lblk.keep k, h.ablk.keep k, h.row.below k (Nat.le_refl _), h.sl, h.far, below_via h.bel k⟩
structure LvS (w W : World) (lb mb : Nat) (K : Ln) (M : Mv) (a5 : Option Addr) (c6 : Nat) (l5 : List Int) : Prop where
  l : Blk W lb (lnA K (.slice a5 l5.length c6)) 53
  m : Blk W mb #[.int .i64 M.i, .int .i64 M.p, .int .i64 M.w, .int .i64 M.r] 65
  row : Row W (.slice a5 l5.length c6) l5
  bel : Below w.heap.size w W
theorem LvS.drew {w W : World} {lb mb : Nat} {K : Ln} {M : Mv} {a5 : Option Addr} {c6 : Nat} {l5 : List Int} (h : LvS w W lb mb K M a5 c6 l5) : LvS w W.drew lb mb K M a5 c6 l5 := ⟨h.l, h.m, h.row.drew, below_drew h.bel⟩
theorem LvS.past {w W W' : World} {lb mb b : Nat} {K : Ln} {M : Mv} {a5 : Option Addr} {c6 : Nat} {l5 : List Int} (h : LvS w W lb mb K M a5 c6 l5) (k : Past W W' b) (h1 : lb ≠ b) (h2 : mb ≠ b) (h3 : ∀ x, a5 = some x → x.block ≠ b) (h4 : w.heap.size ≤ b) : LvS w W' lb mb K M a5 c6 l5 := ⟨k.blk h1 h.l, k.blk h2 h.m, k.row h3 h.row, k.bel h4 h.bel⟩
theorem wrap_i64_in {x : Int} (h : -9223372036854775808 ≤ x ∧ x ≤ 9223372036854775807) : IntKind.i64.wrap x = x := by
  first
    | (rw [IntKind.wrap_i64]; unfold Go.RowKit.wrap64; omega)
    | (simp [IntKind.wrap, IntKind.signed, IntKind.bits]; omega)
set_option maxHeartbeats 8000000 in
set_option maxRecDepth 20000 in
theorem ll_go (out : Int) (a a2 : Option Addr) (n c n2 c2 : Nat) (l : List Int) (ds : List (Int × Int)) (w : World) (ho : In64 out) (hR : Row w (.slice a n c) l) (hS : Sl a n c) (hD : RowG 2 w (.slice a2 n2 c2) (ds.map dCells)) (t0 : decide ((40 : Int) < (n : Int)) = false) (t1 : decide ((200 : Int) < (n2 : Int)) = false) (h7 : l.length ≤ 40) (h8 : n2 ≤ 200) : LivesL w out (.slice a n c) (.slice a2 n2 c2) := by
  unfold LivesL
  have HA := hide aliveL
  unfold AliveL at HA
  go_enter (Tri.at (by decide) Try.func8), Try.ntmps8
  go_wp2_with fail
  refine (unhide HA _).mono ?_
  rintro z w1 ⟨rfl, hb⟩
  have HB := hide hb
  clear HA
  have HN := hide (new_any (id := 1) ho (hR.below hb (Nat.le_refl _)) hS (by omega))
  unfold NewA at HN
  have HD := hide hD
  clear hb ho hR hS hD
  go_wp2_with fail
  refine (unhide HN).mono ?_
  rintro z w2 ⟨r, e, hN, hz, hb⟩
  replace HB := hide (below_via (unhide HB) hb)
  rcases hz with ⟨he, rfl⟩ | ⟨rfl, a3, c3, rfl, hr, hs, hf⟩
  · have d1 : (e != 0) = true := by simpa using he
    have HB2 := hide (below_via (unhide HB) (below1L w2 (.cells lnZ 53)))
    clear he hb hN HN
    go_wp2_with fail
    go_ret
    exact ⟨rfl, unhide HB2⟩
  have HNw := hide hN
  have hlt : ∀ x, a3 = some x → x.block < w2.heap.size := fun x hx => by
    subst hx
    obtain ⟨b, off, cp, e1⟩ := row_open' hr (by
      have := (new_rt hN).2
      cases l with
      | nil => exact absurd rfl this
      | cons _ _ => simp)
    injection e1 with e1
    injection e1 with e1
    subst e1
    exact lt_of_cell (row_cell hr (j := 0) (by
      have := (new_rt hN).2
      cases l with
      | nil => exact absurd rfl this
      | cons _ _ => simp))
  have HI : Hid (LvW w ((w2.alloc (.cells (lnA (newK 1 out r) (.slice a3 l.length c3)) 53)).alloc (.cells #[.int .i64 0, .int .i64 0, .int .i64 0, .int .i64 0] 65)) w2.heap.size (w2.heap.size + 1) (newK 1 out r) ⟨0, 0, 0, 0⟩ a3 c3 l) := hide ⟨lv_new hN, (Blk.new w2 _ 53).alloc _, by have h := Blk.new (w2.alloc (.cells (lnA (newK 1 out r) (.slice a3 l.length c3)) 53)) #[.int .i64 0, .int .i64 0, .int .i64 0, .int .i64 0] 65; simpa using h, (hr.alloc _).alloc _, hs, fun x hx => ⟨by have := hlt x hx; omega, by have := hlt x hx; omega⟩, below_via (unhide HB) ((below1L w2 _).alloc (by simp) _)⟩
  have HSz0 : Hid (w.heap.size ≤ w2.heap.size) := hide (unhide HB).size
  clear hlt hr hs hf hb HB HN hN
  generalize newK 1 out r = L0 at *
  go_wp2_with fail
  go_loopw [35] (fun i wr => ∃ (k : Nat) (L : Ln) (A : Mv) (a3 : Option Addr) (c3 : Nat) (l3 : List Int), k ≤ n2 ∧ i = .int .i64 k ∧ Hid (LvW w wr w2.heap.size (w2.heap.size + 1) L A a3 c3 l3)) (fun i _ => n2 - (intOf i).toNat)
  case atStart => exact ⟨0, _, _, _, _, _, Nat.zero_le _, rfl, HI⟩
  case round =>
    clear HI
    obtain ⟨k, L, A, a4, c4, l4, hk, rfl, HI⟩ := hrel
    by_cases hlt : k < n2
    case neg =>
      have hk2 : k = n2 := by omega
      subst hk2
      go_wp2_with fail
      go_ret
      exact ⟨rfl, (unhide HI).bel⟩
    have hn2 : n2 = (ds.map dCells).length := rowG_len (unhide HD)
    obtain ⟨b5, o5, c5, e5, _, _⟩ := ((unhide HD).keep (unhide HI).bel).open (by omega)
    injection e5 with e5 e6 e7
    subst e5
    have g0 := ((unhide HD).keep (unhide HI).bel).cells (j := k) (t := 0) (by omega) (by decide)
    have g1 := ((unhide HD).keep (unhide HI).bel).cells (j := k) (t := 1) (by omega) (by decide)
    rw [Nat.add_zero] at g0
    have hg : (ds.map dCells).getD k [] = dCells (ds.getD k (0, 0)) := by
      have : k < ds.length := by rw [List.length_map] at hn2; omega
      simp [List.getD, this]
    unfold getG at g0 g1
    rw [hg] at g0 g1
    simp only [dCells, List.getD_cons_zero, List.getD_cons_succ] at g0 g1
    generalize (ds.getD k (0, 0)).1 = kd at *
    generalize (ds.getD k (0, 0)).2 = am at *
    clear hg e6 e7
    have k1 : (k : Int) < (n2 : Int) := by omega
    obtain ⟨K, l5, M, e, hD2, hw⟩ := lv_step (kd := kd) (p := am) (unhide HI).inv
    have HDo := hide hD2
    unfold DoF at HDo
    have HW := hide hw
    clear hD2 hw hn2
    replace HI := hide ((unhide HI).keep (below1L wr (.cells #[.int .i64 kd, .int .i64 am] 75)))
    have HL := hide (unhide HI).lblk
    have HA0 := hide (unhide HI).ablk
    go_wp2_with (refine load_blk rfl 53 _ rfl (show Blk _ _ _ _ from unhide HL) rfl row53 size53 rfl ?_)
    refine (unhide HDo _ a4 _ c4 (unhide HI).row (unhide HI).sl (by have := (lv_in (unhide HI).inv).2.2.2.2; omega)).mono ?_
    rintro z v1 ⟨a5, c6, rfl, hr, hs, hf, hb⟩
    have hbb := below_via hb ((below1L v1 (.cells (lnA K (.slice a5 l5.length c6)) 53)).alloc (by simp) (.cells #[.int .i64 M.i, .int .i64 M.p, .int .i64 M.w, .int .i64 M.r] 65))
    replace HI := hide ((unhide HI).keep hbb)
    have HX := hide ((Blk.new v1 (lnA K (.slice a5 l5.length c6)) 53).alloc (.cells #[.int .i64 M.i, .int .i64 M.p, .int .i64 M.w, .int .i64 M.r] 65))
    have HM : Hid (Blk ((v1.alloc (.cells (lnA K (.slice a5 l5.length c6)) 53)).alloc (.cells #[.int .i64 M.i, .int .i64 M.p, .int .i64 M.w, .int .i64 M.r] 65)) (v1.heap.size + 1) #[.int .i64 M.i, .int .i64 M.p, .int .i64 M.w, .int .i64 M.r] 65) := hide (by have h := Blk.new (v1.alloc (.cells (lnA K (.slice a5 l5.length c6)) 53)) #[.int .i64 M.i, .int .i64 M.p, .int .i64 M.w, .int .i64 M.r] 65; simpa using h)
    have HR5 := hide ((hr.alloc (.cells (lnA K (.slice a5 l5.length c6)) 53)).alloc (.cells #[.int .i64 M.i, .int .i64 M.p, .int .i64 M.w, .int .i64 M.r] 65))
    have HS5 := hide hs
    have HF5 : Hid (∀ x, a5 = some x → x.block ≠ w2.heap.size ∧ x.block ≠ w2.heap.size + 1) := hide (fun x hx => by
      have h1 := hf x hx
      have h2 := (show Blk _ _ _ _ from unhide HA0).lt
      exact ⟨by omega, by omega⟩)
    have HNe : Hid (w2.heap.size ≠ v1.heap.size ∧ w2.heap.size + 1 ≠ v1.heap.size + 1 ∧ w2.heap.size ≠ v1.heap.size + 1) := hide (by
      have h1 := (show Blk _ _ _ _ from unhide HA0).lt
      have h2 := hb.size
      exact ⟨by omega, by omega, by omega⟩)
    have HSz : Hid (w.heap.size ≤ w2.heap.size) := HSz0
    clear hb hr hs hf hbb HL HDo HA0
    generalize hU : (v1.alloc (.cells (lnA K (.slice a5 l5.length c6)) 53)).alloc (.cells #[.int .i64 M.i, .int .i64 M.p, .int .i64 M.w, .int .i64 M.r] 65) = U1 at HI HX HM HR5
    rcases unhide HW with ⟨d1, m0, m1, m2, m3, ks⟩ | ⟨d1, hv⟩
    · have d2 : ∀ w, (binOp .neq 65 (.agg #[.int .i64 M.i, .int .i64 M.p, .int .i64 M.w, .int .i64 M.r]) (.agg #[.int .i64 0, .int .i64 0, .int .i64 0, .int .i64 0])).run (Tri Try.prog) w = .ok (.bool false) w := fun w => by
        rw [m0, m1, m2, m3]
        exact neq65 w
      have d3 : (K.st != 0) = false := by rw [ks]; rfl
      have x1 := (show Blk _ _ _ _ from unhide HX).at 1 (.int .i64 K.st) rfl
      have mm := Blk.c4 (show Blk _ _ _ _ from unhide HM)
      clear HW HR5 HS5 HF5 HX HM m0 m1 m2 m3 ks
      go_wp2_with fail
      go_roundw
      case rel => exact ⟨k + 1, _, _, _, _, _, by omega, by go_num, HI⟩
      case measure => simp [intOf]; omega
    · clear HW
      have HV := hide hv
      clear hv
      have HL := hide (unhide HI).lblk
      have HA := hide (unhide HI).ablk
      have HBe := hide (unhide HI).bel
      have hlx : w2.heap.size ≠ v1.heap.size ∧ w2.heap.size + 1 ≠ v1.heap.size + 1 ∧ w2.heap.size ≠ v1.heap.size + 1 := unhide HNe
      clear HI
      go_wp2_with (first | refine load_blk rfl 53 _ rfl (show Blk _ _ _ _ from unhide HX) rfl row53 size53 rfl ?_ | refine store_blk rfl 53 _ _ rfl (show Blk _ _ _ _ from unhide HL) rfl rfl size53 rfl rfl rfl (fun W2 b2 kp => ?_))
      have HL2 := hide b2
      replace HA := hide (kp.blk (by omega) (show Blk _ _ _ _ from unhide HA))
      replace HM := hide (kp.blk (by omega) (show Blk _ _ _ _ from unhide HM))
      replace HR5 := hide (kp.row (fun x hx => (unhide HF5 x hx).1) (unhide HR5))
      replace HBe := hide (kp.bel (unhide HSz) (unhide HBe))
      clear b2 kp HL HX hU
      obtain ⟨y0, y1, y2, y3⟩ := Blk.c4 (show Blk _ _ _ _ from unhide HA)
      have HIn := hide (lv_in (unhide HV))
      obtain ⟨i0, i1, i2, i3, i4⟩ := unhide HIn
      simp only at i0 i1 i2 i3
      have z0 : IntKind.i64.wrap (A.i + M.i) = A.i + M.i := wrap_i64_in ⟨by omega, by omega⟩
      have z1 : IntKind.i64.wrap (A.p + M.p) = A.p + M.p := wrap_i64_in ⟨by omega, by omega⟩
      have z2 : IntKind.i64.wrap (A.w + M.w) = A.w + M.w := wrap_i64_in ⟨by omega, by omega⟩
      have z3 : IntKind.i64.wrap (A.r + M.r) = A.r + M.r := wrap_i64_in ⟨by omega, by omega⟩
      clear HIn i0 i1 i2 i3
      refine wp_region_held_drew (S := fun W => LvS w W w2.heap.size (v1.heap.size + 1) K M a5 c6 l5) (by kernel_rfl) (LvS.drew ⟨unhide HL2, unhide HM, unhide HR5, unhide HBe⟩) (fun hS => ?_)
      clear HL2 HM HR5 HBe
      replace y0 : W2.drew.cell? ⟨w2.heap.size + 1, 0, none⟩ = some (.int .i64 A.i) := y0
      replace y1 : W2.drew.cell? ⟨w2.heap.size + 1, 1, none⟩ = some (.int .i64 A.p) := y1
      replace y2 : W2.drew.cell? ⟨w2.heap.size + 1, 2, none⟩ = some (.int .i64 A.w) := y2
      replace y3 : W2.drew.cell? ⟨w2.heap.size + 1, 3, none⟩ = some (.int .i64 A.r) := y3
      replace HA : Hid (Blk W2.drew (w2.heap.size + 1) #[.int .i64 A.i, .int .i64 A.p, .int .i64 A.w, .int .i64 A.r] 65) := hide (unhide HA)
      generalize hV : W2.drew = V0 at *
      clear hV
      refine anyH_at (i := 0) (v := .pointer (some ⟨w2.heap.size + 1, 0, none⟩)) 60 rfl (by kernel_rfl) (by kernel_rfl) (by kernel_rfl) (by kernel_rfl) (fun _ _ _ h => h) (Or.inl ⟨by kernel_rfl, fun W hS => by go_simp⟩) hS ?_
      try simp only [Act.put, List.setIfInBounds_toArray, List.set_cons_zero, List.set_cons_succ]
      refine anyH_at (i := 2) (v := .pointer (some ⟨v1.heap.size + 1, 0, none⟩)) 62 rfl (by kernel_rfl) (by kernel_rfl) (by kernel_rfl) (by kernel_rfl) (fun _ _ _ h => h) (Or.inl ⟨by kernel_rfl, fun W hS => by go_simp⟩) hS ?_
      try simp only [Act.put, List.setIfInBounds_toArray, List.set_cons_zero, List.set_cons_succ]
      refine anyH_at (i := 3) (v := .int .i64 M.i) 63 rfl (by kernel_rfl) (by kernel_rfl) (by kernel_rfl) (by kernel_rfl) (fun _ _ _ h => h) (Or.inl ⟨by kernel_rfl, fun W hS => by have f := hS.m.at 0 (.int .i64 M.i) rfl; go_simp⟩) hS ?_
      try simp only [Act.put, List.setIfInBounds_toArray, List.set_cons_zero, List.set_cons_succ]
      refine anyH_at (i := 5) (v := .pointer (some ⟨w2.heap.size + 1, 1, none⟩)) 65 rfl (by kernel_rfl) (by kernel_rfl) (by kernel_rfl) (by kernel_rfl) (fun _ _ _ h => h) (Or.inl ⟨by kernel_rfl, fun W hS => by go_simp⟩) hS ?_
      try simp only [Act.put, List.setIfInBounds_toArray, List.set_cons_zero, List.set_cons_succ]
      refine anyH_at (i := 7) (v := .pointer (some ⟨v1.heap.size + 1, 1, none⟩)) 67 rfl (by kernel_rfl) (by kernel_rfl) (by kernel_rfl) (by kernel_rfl) (fun _ _ _ h => h) (Or.inl ⟨by kernel_rfl, fun W hS => by go_simp⟩) hS ?_
      try simp only [Act.put, List.setIfInBounds_toArray, List.set_cons_zero, List.set_cons_succ]
      refine anyH_at (i := 8) (v := .int .i64 M.p) 68 rfl (by kernel_rfl) (by kernel_rfl) (by kernel_rfl) (by kernel_rfl) (fun _ _ _ h => h) (Or.inl ⟨by kernel_rfl, fun W hS => by have f := hS.m.at 1 (.int .i64 M.p) rfl; go_simp⟩) hS ?_
      try simp only [Act.put, List.setIfInBounds_toArray, List.set_cons_zero, List.set_cons_succ]
      refine anyH_at (i := 10) (v := .pointer (some ⟨w2.heap.size + 1, 2, none⟩)) 70 rfl (by kernel_rfl) (by kernel_rfl) (by kernel_rfl) (by kernel_rfl) (fun _ _ _ h => h) (Or.inl ⟨by kernel_rfl, fun W hS => by go_simp⟩) hS ?_
      try simp only [Act.put, List.setIfInBounds_toArray, List.set_cons_zero, List.set_cons_succ]
      refine anyH_at (i := 12) (v := .pointer (some ⟨v1.heap.size + 1, 2, none⟩)) 72 rfl (by kernel_rfl) (by kernel_rfl) (by kernel_rfl) (by kernel_rfl) (fun _ _ _ h => h) (Or.inl ⟨by kernel_rfl, fun W hS => by go_simp⟩) hS ?_
      try simp only [Act.put, List.setIfInBounds_toArray, List.set_cons_zero, List.set_cons_succ]
      refine anyH_at (i := 13) (v := .int .i64 M.w) 73 rfl (by kernel_rfl) (by kernel_rfl) (by kernel_rfl) (by kernel_rfl) (fun _ _ _ h => h) (Or.inl ⟨by kernel_rfl, fun W hS => by have f := hS.m.at 2 (.int .i64 M.w) rfl; go_simp⟩) hS ?_
      try simp only [Act.put, List.setIfInBounds_toArray, List.set_cons_zero, List.set_cons_succ]
      refine anyH_at (i := 15) (v := .pointer (some ⟨w2.heap.size + 1, 3, none⟩)) 75 rfl (by kernel_rfl) (by kernel_rfl) (by kernel_rfl) (by kernel_rfl) (fun _ _ _ h => h) (Or.inl ⟨by kernel_rfl, fun W hS => by go_simp⟩) hS ?_
      try simp only [Act.put, List.setIfInBounds_toArray, List.set_cons_zero, List.set_cons_succ]
      refine anyH_at (i := 17) (v := .pointer (some ⟨v1.heap.size + 1, 3, none⟩)) 77 rfl (by kernel_rfl) (by kernel_rfl) (by kernel_rfl) (by kernel_rfl) (fun _ _ _ h => h) (Or.inl ⟨by kernel_rfl, fun W hS => by go_simp⟩) hS ?_
      try simp only [Act.put, List.setIfInBounds_toArray, List.set_cons_zero, List.set_cons_succ]
      refine anyH_at (i := 18) (v := .int .i64 M.r) 78 rfl (by kernel_rfl) (by kernel_rfl) (by kernel_rfl) (by kernel_rfl) (fun _ _ _ h => h) (Or.inl ⟨by kernel_rfl, fun W hS => by have f := hS.m.at 3 (.int .i64 M.r) rfl; go_simp⟩) hS ?_
      try simp only [Act.put, List.setIfInBounds_toArray, List.set_cons_zero, List.set_cons_succ]
      refine grid4 (L := fun a b c d => #[true, a, true, true, a, true, b, true, true, b, true, c, true, true, c, true, d, true, true, d, false, false, false, false, false, false, false, false]) (A := gridA _ 61 64 66 69 71 74 76 79 (.int .i64 A.i) (.int .i64 (A.i + M.i)) (.int .i64 A.p) (.int .i64 (A.p + M.p)) (.int .i64 A.w) (.int .i64 (A.w + M.w)) (.int .i64 A.r) (.int .i64 (A.r + M.r))) 1 6 11 16 (by intro a b c d h; cases a <;> cases b <;> cases c <;> cases d <;> first | (cases h; done) | kernel_rfl) ?g1 ?g2 ?g3 ?g4 (n := 8) rfl (by kernel_rfl) (by rfl) ?gt
      case g1 =>
        intro n b c d H
        cases b <;> cases c <;> cases d <;> refine grid_step (i := 1) (i' := 4) (s := 61) (t := 64) (v := .int .i64 A.i) (u := .int .i64 (A.i + M.i)) rfl rfl (by kernel_rfl) (by simp only [gridA, putIf, if_true, if_false, Bool.false_eq_true, Act.put, List.setIfInBounds_toArray, List.set_cons_zero, List.set_cons_succ]; go_simp) hS rfl rfl (by kernel_rfl) (by kernel_rfl) (by kernel_rfl) (fun _ _ _ h => h) (Or.inl ⟨by kernel_rfl, fun W hS => by simp only [gridA, putIf, if_true, if_false, Bool.false_eq_true, Act.put, List.setIfInBounds_toArray, List.set_cons_zero, List.set_cons_succ]; go_simp⟩) (by kernel_rfl) (by kernel_rfl) H
      case g2 =>
        intro n a c d H
        cases a <;> cases c <;> cases d <;> refine grid_step (i := 6) (i' := 9) (s := 66) (t := 69) (v := .int .i64 A.p) (u := .int .i64 (A.p + M.p)) rfl rfl (by kernel_rfl) (by simp only [gridA, putIf, if_true, if_false, Bool.false_eq_true, Act.put, List.setIfInBounds_toArray, List.set_cons_zero, List.set_cons_succ]; go_simp) hS rfl rfl (by kernel_rfl) (by kernel_rfl) (by kernel_rfl) (fun _ _ _ h => h) (Or.inl ⟨by kernel_rfl, fun W hS => by simp only [gridA, putIf, if_true, if_false, Bool.false_eq_true, Act.put, List.setIfInBounds_toArray, List.set_cons_zero, List.set_cons_succ]; go_simp⟩) (by kernel_rfl) (by kernel_rfl) H
      case g3 =>
        intro n a b d H
        cases a <;> cases b <;> cases d <;> refine grid_step (i := 11) (i' := 14) (s := 71) (t := 74) (v := .int .i64 A.w) (u := .int .i64 (A.w + M.w)) rfl rfl (by kernel_rfl) (by simp only [gridA, putIf, if_true, if_false, Bool.false_eq_true, Act.put, List.setIfInBounds_toArray, List.set_cons_zero, List.set_cons_succ]; go_simp) hS rfl rfl (by kernel_rfl) (by kernel_rfl) (by kernel_rfl) (fun _ _ _ h => h) (Or.inl ⟨by kernel_rfl, fun W hS => by simp only [gridA, putIf, if_true, if_false, Bool.false_eq_true, Act.put, List.setIfInBounds_toArray, List.set_cons_zero, List.set_cons_succ]; go_simp⟩) (by kernel_rfl) (by kernel_rfl) H
      case g4 =>
        intro n a b c H
        cases a <;> cases b <;> cases c <;> refine grid_step (i := 16) (i' := 19) (s := 76) (t := 79) (v := .int .i64 A.r) (u := .int .i64 (A.r + M.r)) rfl rfl (by kernel_rfl) (by simp only [gridA, putIf, if_true, if_false, Bool.false_eq_true, Act.put, List.setIfInBounds_toArray, List.set_cons_zero, List.set_cons_succ]; go_simp) hS rfl rfl (by kernel_rfl) (by kernel_rfl) (by kernel_rfl) (fun _ _ _ h => h) (Or.inl ⟨by kernel_rfl, fun W hS => by simp only [gridA, putIf, if_true, if_false, Bool.false_eq_true, Act.put, List.setIfInBounds_toArray, List.set_cons_zero, List.set_cons_succ]; go_simp⟩) (by kernel_rfl) (by kernel_rfl) H
      case gt =>
        simp only [gridA, putIf, if_true, Act.put, List.setIfInBounds_toArray, List.set_cons_zero, List.set_cons_succ]
        have hsz := unhide HSz
        clear y0 y1 y2 y3 z0 z1 z2 z3
        refine anyH_at (i := 20) (v := .pointer (some ⟨w2.heap.size + 1, 0, none⟩)) 80 rfl (by kernel_rfl) (by kernel_rfl) (by kernel_rfl) (by kernel_rfl) (fun _ _ _ h => h) (Or.inl ⟨by kernel_rfl, fun W hS => by go_simp⟩) hS ?_
        try simp only [Act.put, List.setIfInBounds_toArray, List.set_cons_zero, List.set_cons_succ]
        refine wpAnyH_all (rs := [21]) (by kernel_rfl) (by simp) (AllReadyH.cons (i := 21) rfl (fun KK hK => ?_) AllReadyH.nil)
        rw [if_pos (by kernel_rfl)]
        have hSB := hide hS
        clear hS
        have yq := (show Blk _ _ _ _ from unhide HA).at 0 (.int .i64 A.i) rfl
        have fq := (show Blk _ _ _ _ from unhide HA).fz 0
        go_wp2_with fail
        clear yq fq
        have hBq : Blk (V0.setCell ⟨w2.heap.size + 1, 0, none⟩ (.int .i64 (A.i + M.i))) (w2.heap.size + 1) #[.int .i64 (A.i + M.i), .int .i64 A.p, .int .i64 A.w, .int .i64 A.r] 65 := (show Blk _ _ _ _ from unhide HA).set 0 (.int .i64 (A.i + M.i))
        have hPq : Past V0 (V0.setCell ⟨w2.heap.size + 1, 0, none⟩ (.int .i64 (A.i + M.i))) (w2.heap.size + 1) := past_setCells [.int .i64 (A.i + M.i)] 0 V0
        have hSA := (unhide hSB).past hPq (by omega) (by omega) (fun x hx => (unhide HF5 x hx).2) (by omega)
        clear hPq HA hSB
        generalize hW : V0.setCell ⟨w2.heap.size + 1, 0, none⟩ (.int .i64 (A.i + M.i)) = V1 at *
        clear hW
        have HA := hide hBq
        clear hBq
        refine hK.out _ _ hSA (fun hS => ?_)
        clear hK hSA
        refine anyH_at (i := 22) (v := .pointer (some ⟨w2.heap.size + 1, 1, none⟩)) 81 rfl (by kernel_rfl) (by kernel_rfl) (by kernel_rfl) (by kernel_rfl) (fun _ _ _ h => h) (Or.inl ⟨by kernel_rfl, fun W hS => by go_simp⟩) hS ?_
        try simp only [Act.put, List.setIfInBounds_toArray, List.set_cons_zero, List.set_cons_succ]
        refine wpAnyH_all (rs := [23]) (by kernel_rfl) (by simp) (AllReadyH.cons (i := 23) rfl (fun KK hK => ?_) AllReadyH.nil)
        rw [if_pos (by kernel_rfl)]
        have hSB := hide hS
        clear hS
        have yq := (show Blk _ _ _ _ from unhide HA).at 1 (.int .i64 A.p) rfl
        have fq := (show Blk _ _ _ _ from unhide HA).fz 1
        go_wp2_with fail
        clear yq fq
        have hBq : Blk (V1.setCell ⟨w2.heap.size + 1, 1, none⟩ (.int .i64 (A.p + M.p))) (w2.heap.size + 1) #[.int .i64 (A.i + M.i), .int .i64 (A.p + M.p), .int .i64 A.w, .int .i64 A.r] 65 := (show Blk _ _ _ _ from unhide HA).set 1 (.int .i64 (A.p + M.p))
        have hPq : Past V1 (V1.setCell ⟨w2.heap.size + 1, 1, none⟩ (.int .i64 (A.p + M.p))) (w2.heap.size + 1) := past_setCells [.int .i64 (A.p + M.p)] 1 V1
        have hSA := (unhide hSB).past hPq (by omega) (by omega) (fun x hx => (unhide HF5 x hx).2) (by omega)
        clear hPq HA hSB
        generalize hW : V1.setCell ⟨w2.heap.size + 1, 1, none⟩ (.int .i64 (A.p + M.p)) = V2 at *
        clear hW
        have HA := hide hBq
        clear hBq
        refine hK.out _ _ hSA (fun hS => ?_)
        clear hK hSA
        refine anyH_at (i := 24) (v := .pointer (some ⟨w2.heap.size + 1, 2, none⟩)) 82 rfl (by kernel_rfl) (by kernel_rfl) (by kernel_rfl) (by kernel_rfl) (fun _ _ _ h => h) (Or.inl ⟨by kernel_rfl, fun W hS => by go_simp⟩) hS ?_
        try simp only [Act.put, List.setIfInBounds_toArray, List.set_cons_zero, List.set_cons_succ]
        refine wpAnyH_all (rs := [25]) (by kernel_rfl) (by simp) (AllReadyH.cons (i := 25) rfl (fun KK hK => ?_) AllReadyH.nil)
        rw [if_pos (by kernel_rfl)]
        have hSB := hide hS
        clear hS
        have yq := (show Blk _ _ _ _ from unhide HA).at 2 (.int .i64 A.w) rfl
        have fq := (show Blk _ _ _ _ from unhide HA).fz 2
        go_wp2_with fail
        clear yq fq
        have hBq : Blk (V2.setCell ⟨w2.heap.size + 1, 2, none⟩ (.int .i64 (A.w + M.w))) (w2.heap.size + 1) #[.int .i64 (A.i + M.i), .int .i64 (A.p + M.p), .int .i64 (A.w + M.w), .int .i64 A.r] 65 := (show Blk _ _ _ _ from unhide HA).set 2 (.int .i64 (A.w + M.w))
        have hPq : Past V2 (V2.setCell ⟨w2.heap.size + 1, 2, none⟩ (.int .i64 (A.w + M.w))) (w2.heap.size + 1) := past_setCells [.int .i64 (A.w + M.w)] 2 V2
        have hSA := (unhide hSB).past hPq (by omega) (by omega) (fun x hx => (unhide HF5 x hx).2) (by omega)
        clear hPq HA hSB
        generalize hW : V2.setCell ⟨w2.heap.size + 1, 2, none⟩ (.int .i64 (A.w + M.w)) = V3 at *
        clear hW
        have HA := hide hBq
        clear hBq
        refine hK.out _ _ hSA (fun hS => ?_)
        clear hK hSA
        refine anyH_at (i := 26) (v := .pointer (some ⟨w2.heap.size + 1, 3, none⟩)) 83 rfl (by kernel_rfl) (by kernel_rfl) (by kernel_rfl) (by kernel_rfl) (fun _ _ _ h => h) (Or.inl ⟨by kernel_rfl, fun W hS => by go_simp⟩) hS ?_
        try simp only [Act.put, List.setIfInBounds_toArray, List.set_cons_zero, List.set_cons_succ]
        refine wpAnyH_all (rs := [27]) (by kernel_rfl) (by simp) (AllReadyH.cons (i := 27) rfl (fun KK hK => ?_) AllReadyH.nil)
        rw [if_pos (by kernel_rfl)]
        have hSB := hide hS
        clear hS
        have yq := (show Blk _ _ _ _ from unhide HA).at 3 (.int .i64 A.r) rfl
        have fq := (show Blk _ _ _ _ from unhide HA).fz 3
        go_wp2_with fail
        clear yq fq
        have hBq : Blk (V3.setCell ⟨w2.heap.size + 1, 3, none⟩ (.int .i64 (A.r + M.r))) (w2.heap.size + 1) #[.int .i64 (A.i + M.i), .int .i64 (A.p + M.p), .int .i64 (A.w + M.w), .int .i64 (A.r + M.r)] 65 := (show Blk _ _ _ _ from unhide HA).set 3 (.int .i64 (A.r + M.r))
        have hPq : Past V3 (V3.setCell ⟨w2.heap.size + 1, 3, none⟩ (.int .i64 (A.r + M.r))) (w2.heap.size + 1) := past_setCells [.int .i64 (A.r + M.r)] 3 V3
        have hSA := (unhide hSB).past hPq (by omega) (by omega) (fun x hx => (unhide HF5 x hx).2) (by omega)
        clear hPq HA hSB
        generalize hW : V3.setCell ⟨w2.heap.size + 1, 3, none⟩ (.int .i64 (A.r + M.r)) = V4 at *
        clear hW
        have HA := hide hBq
        clear hBq
        refine hK.out _ _ hSA (fun hS => ?_)
        clear hK hSA
        refine wpAnyH_done (by kernel_rfl) ?_ _
        have HI : Hid (LvW w V4 w2.heap.size (w2.heap.size + 1) K ⟨A.i + M.i, A.p + M.p, A.w + M.w, A.r + M.r⟩ a5 c6 l5) := hide ⟨unhide HV, hS.l, unhide HA, hS.row, unhide HS5, unhide HF5, hS.bel⟩
        clear hS HA
        have HL := hide (unhide HI).lblk
        have HRt : Hid (∀ W, Row W (.slice a5 l5.length c6) l5 → Tells 31 W #[.agg (lnA K (.slice a5 l5.length c6))] true) := hide (fun W h => by
          have g := right_any K a5 _ c6 l5 W h
          rw [(unhide HV).rt] at g
          exact g)
        unfold Tells at HRt
        have c0 : (K.inc != A.i + M.i) = false := by have := (unhide HV).i; simpa using this
        have c1 : (K.got != A.p + M.p) = false := by have := (unhide HV).p; simpa using this
        have c2 : (K.wri != A.w + M.w) = false := by have := (unhide HV).w; simpa using this
        have c3 : (K.rcv != A.r + M.r) = false := by have := (unhide HV).r; simpa using this
        have c4 : (K.adj != 0) = false := by have := (unhide HV).adj; simpa using this
        go_wp2_with (refine load_blk rfl 53 _ rfl (show Blk _ _ _ _ from unhide HL) rfl row53 size53 rfl ?_)
        refine (unhide HRt _ (unhide HI).row).mono ?_
        rintro z w9 ⟨rfl, hb⟩
        replace HI := hide ((unhide HI).keep hb)
        clear hb HRt HL
        have xs := Blk.c13 (unhide HI).lblk
        have ys := Blk.c4 (unhide HI).ablk
        go_wp2_with fail
        go_roundw
        case rel => exact ⟨k + 1, _, _, _, _, _, by omega, by go_num, HI⟩
        case measure => simp [intOf]; omega
theorem llives_any {w : World} {a a2 : Option Addr} {n c n2 c2 : Nat} {l : List Int} {ds : List (Int × Int)} {out : Int} (ho : In64 out) (hR : Row w (.slice a n c) l) (hS : Sl a n c) (hD : RowG 2 w (.slice a2 n2 c2) (ds.map dCells)) : LivesL w out (.slice a n c) (.slice a2 n2 c2) := by
  have hn := row_n hR
  by_cases h0 : 40 < n
  · exact ll_a out a a2 n c n2 c2 w (decide_eq_true (by omega))
  have t0 : decide ((40 : Int) < (n : Int)) = false := decide_eq_false (by omega)
  by_cases h1 : 200 < n2
  · exact ll_b out a a2 n c n2 c2 w t0 (decide_eq_true (by omega))
  exact ll_go out a a2 n c n2 c2 l ds w ho hR hS hD t0 (decide_eq_false (by omega)) (by omega) (by omega)
end Go.Proofs.Ytpeoabopeihadaa.Mn
