/- LoanEnds, lone. -/
import Derived.Test.YtlaaomhcilnbkaaZLAl
import Derived.Test.YtlaaomhcilnbkaaZMS
set_option linter.unusedVariables false
set_option linter.unusedSimpArgs false
set_option linter.unusedSectionVars false
namespace Go.Proofs.Ytlaaomhcilnbkaa.Mn
open Go.RowKit
attribute [local simp] Tri.typeInfo Tri.sizeOf Tri.underlying Tri.runUnderlying Tri.isAgg Tri.zeroValue Tri.depth Tri.stoodInHeld Tri.eqGuardType Tri.call16 Tri.call22 Tri.call28 Tri.call29 Tri.call33 Tri.call38 Tri.call39 Tri.call42 Tri.call45 Tri.call48 Tri.call52 Tri.call54 Tri.call62 Tri.call63 Tri.call65 Tri.call66 Tri.call68 Tri.call69 Tri.call70 Tri.call71 Tri.call78 Tri.call79 Tri.call80 Tri.call81 Tri.call82 Tri.call83 Tri.call84 Tri.call85 Tri.call86 Tri.call89 Tri.call101 Tri.call102 Tri.call103 Tri.call104 Tri.call105 Tri.call107 Tri.call113 Tri.call123 Tri.call124 Tri.call125 Tri.call126 Tri.call127 Tri.call136 Tri.call138 Tri.call139 Tri.call140 Tri.call141 Tri.call142 Tri.call143 Tri.call144 Tri.call154 Tri.call155 Tri.call165 Tri.call167 Tri.call184
theorem new_rt {id out : Int} {l : List Int} {r : Int} (h : NewE id out l r 0) : Rt (newK id out r) l ∧ l ≠ [] := by
  rcases h with ⟨_, _, h⟩ | ⟨hi, h⟩
  · cases h
  rcases h with ⟨_, _, h⟩ | ⟨hm, ⟨_, _, h⟩ | ⟨h, _⟩⟩
  · cases h
  · cases h
  have hs := maySo_yes hm
  have h1 := hs.lo
  have h2 := hs.hi
  have h3 := h.lo
  have h4 := h.hi
  refine ⟨⟨inB_yes hi, ?_, ?_, ⟨h1, h2⟩, ⟨h3, by show r ≤ _; omega⟩, ?_, ?_, ?_, ?_, ?_, ?_, ?_, hs.len, hs.amt, .inl rfl, ?_⟩, fun e => ?_⟩
  · simp [newK]
  · simp [newK]
  · simp only [newK]; omega
  · simp [newK]
  · simp [newK]
  · simp [newK]
  · simp [newK]
  · simp [newK]
  · simp [newK]
  · simp [newK]
  · rw [e, maySo_nil] at hm
    cases hm
structure EInv (out : Int) (l : List Int) (k : Nat) (L : Ln) : Prop where
  rt : Rt L (l.drop k)
  due : L.due = 0
  be : L.be = 0
  got : L.got = total (l.take k)
  o : L.out = out
  adj : L.adj = 0
  wri : L.wri = 0
  st : k < l.length → L.st = 1
  fin : k = l.length → L.st = 2
theorem einv_new {id out : Int} {l : List Int} {r : Int} (h : NewE id out l r 0) : EInv out l 0 (newK id out r) := by
  obtain ⟨h1, h2⟩ := new_rt h
  refine ⟨by simpa using h1, rfl, rfl, by simp [newK, total], rfl, rfl, rfl, fun _ => rfl, fun e => absurd (List.eq_nil_of_length_eq_zero e.symm) h2⟩
theorem drop_at {l : List Int} {k : Nat} (h : k < l.length) : l.drop k = l.getD k 0 :: l.drop (k + 1) := by
  rw [List.drop_eq_getElem_cons h]
  simp [List.getD, h]
theorem step3 {k : Nat} {L : Ln} {l : List Int} {p : Int} (hc : chkS k L l p = 0) : stepE k L l p = 0 ∨ stepE k L l p = 2 ∨ stepE k L l p = 3 := by
  unfold stepE
  rw [if_pos hc]
  split
  · exact .inr (.inl rfl)
  · split
    · exact .inl rfl
    · exact .inr (.inr rfl)
theorem step_ok {k : Nat} {L : Ln} {l : List Int} {p : Int} (h : stepE k L l p = 0) : chkS k L l p = 0 ∧ stepR k L l p = doS k L l p ∧ Rt (doS k L l p).K (doS k L l p).l := by
  have hR : stepR k L l p = doS k L l p := by unfold stepR; rw [if_pos h]
  unfold stepE at h
  split at h
  · next hc =>
    refine ⟨hc, hR, ?_⟩
    split at h
    · cases h
    · split at h
      · next ht => exact rt_of ht
      · cases h
  · next hc => exact absurd h hc
theorem einv_chk {out : Int} {l : List Int} {k : Nat} {L : Ln} (h : EInv out l k L) (hk : k < l.length) : chkS 1 L (l.drop k) (l.getD k 0) = 0 := by
  have hd := drop_at hk
  have hx := h.rt.amt (l.getD k 0) (by rw [hd]; exact List.mem_cons_self)
  exact chk_of h.rt hx (h.st hk) (by rw [hd]; simp)
theorem einv_next {out : Int} {l : List Int} {k : Nat} {L : Ln} (h : EInv out l k L) (hk : k < l.length) (he : stepE 1 L (l.drop k) (l.getD k 0) = 0) : (stepR 1 L (l.drop k) (l.getD k 0)).l = l.drop (k + 1) ∧ EInv out l (k + 1) (stepR 1 L (l.drop k) (l.getD k 0)).K := by
  obtain ⟨_, h2, h3⟩ := step_ok he
  have hd := drop_at hk
  have hgot := h.got
  have hg2 := total_take_succ l k hk
  rw [h2]
  rw [hd] at h3 ⊢
  generalize l.getD k 0 = x at *
  have e1 : (doS 1 L (x :: l.drop (k + 1)) x).l = l.drop (k + 1) := rfl
  have e2 : (doS 1 L (x :: l.drop (k + 1)) x).K = recvK (stepL L x) (l.drop (k + 1)).isEmpty x (qI L.gr L.rt) := rfl
  have hb : recvB (stepL L x) (l.drop (k + 1)).isEmpty x = (l.drop (k + 1)).isEmpty := by
    unfold recvB
    rw [decide_eq_true (by show L.due + x - x ≤ 0; rw [h.due]; omega), Bool.and_true]
  rw [e1, e2] at h3
  refine ⟨e1, ?_⟩
  rw [e2]
  by_cases hl : k + 1 = l.length
  · have hem : (l.drop (k + 1)).isEmpty = true := by simp; omega
    have hK : recvK (stepL L x) (l.drop (k + 1)).isEmpty x (qI L.gr L.rt) = { stepL L x with st := 2, due := 0, be := 0, gr := L.gr + (x - L.gr - x), inc := L.inc + (x - L.gr), got := L.got + x } := by
      unfold recvK
      rw [hb, if_pos hem]
      rfl
    rw [hK] at h3 ⊢
    exact ⟨h3, rfl, rfl, by show L.got + x = _; omega, h.o, h.adj, h.wri, fun c => by omega, fun _ => rfl⟩
  · have hem : ¬ (l.drop (k + 1)).isEmpty = true := by simp; omega
    have hK : recvK (stepL L x) (l.drop (k + 1)).isEmpty x (qI L.gr L.rt) = { stepL L x with due := L.due + x - x, be := 0, gr := L.gr + (qI L.gr L.rt - x), inc := L.inc + qI L.gr L.rt, got := L.got + x } := by
      unfold recvK
      rw [hb, if_neg hem, if_pos (by show L.due + x - x ≤ 0; rw [h.due]; omega)]
      rfl
    rw [hK] at h3 ⊢
    exact ⟨h3, by show L.due + x - x = 0; rw [h.due]; omega, rfl, by show L.got + x = _; omega, h.o, h.adj, h.wri, fun _ => h.st hk, fun c => absurd c hl⟩
theorem einv_end {out : Int} {l : List Int} {L : Ln} (h : EInv out l l.length L) : L.st = 2 ∧ L.gr = 0 ∧ L.inc = total l - out ∧ L.got = total l ∧ 0 ≤ total l ∧ total l ≤ 1125899906842624 := by
  have h1 := h.fin rfl
  have h2 := h.rt.sum
  have h3 := h.got
  rw [List.take_length] at h3
  have h4 := h.o
  have h5 := h.adj
  have h6 := h.wri
  have h7 := h.rt.got
  rcases h.rt.fin with hh | ⟨hg, _, _⟩
  · omega
  · exact ⟨h1, hg, by omega, h3, by omega, by omega⟩
structure EL (w wr : World) (lb : Nat) (out : Int) (l : List Int) (k : Nat) (L : Ln) (a' : Option Addr) (c' : Nat) : Prop where
  inv : EInv out l k L
  blk : Blk wr lb #[.int .i64 L.id, .int .i64 L.st, .int .i64 L.be, .int .i64 L.out, .int .i64 L.rt, .int .i64 L.gr, .int .i64 L.due, .int .i64 L.inc, .int .i64 L.got, .int .i64 L.adj, .int .i64 L.wri, .int .i64 L.rcv, .slice a' (l.drop k).length c'] 62
  row : Row wr (.slice a' (l.drop k).length c') (l.drop k)
  sl : Sl a' (l.drop k).length c'
  bel : Below w.heap.size w wr
def EndsL (w : World) (out : Int) (v : Value) : Prop := Calls (Tri Try.prog) 12 #[.int .i64 out, v] w fun z w' => z = .returned (.bool true) ∧ Below w.heap.size w w'
set_option maxHeartbeats 8000000 in
set_option maxRecDepth 20000 in
theorem lends_any {w : World} {a : Option Addr} {c : Nat} {l : List Int} {out : Int} (ho : In64 out) (hR : Row w (.slice a l.length c) l) (hS : Sl a l.length c) : EndsL w out (.slice a l.length c) := by
  unfold EndsL
  have HA := hide aliveL
  unfold AliveL at HA
  have HN : Hid (∀ w1, Below w.heap.size w w1 → l.length ≤ 40 → NewA w1 7 out (.slice a l.length c) l) := hide (fun w1 hb hl => new_any ho (hR.below hb (Nat.le_refl _)) hS (by omega))
  unfold NewA at HN
  have HR := hide hR
  have HO := hide ho
  clear ho hR hS
  by_cases hl : 40 < l.length
  · have d : decide ((40 : Int) < (l.length : Int)) = true := decide_eq_true (by omega)
    go_enter (Tri.at (by decide) Try.func12), Try.ntmps12
    go_wp2_with fail
    refine (unhide HA _).mono ?_
    rintro z w1 ⟨rfl, hb⟩
    have HB := hide hb
    clear hb HA
    go_wp2_with fail
    go_ret
    exact ⟨rfl, unhide HB⟩
  have d : decide ((40 : Int) < (l.length : Int)) = false := decide_eq_false (by omega)
  have HL : Hid (l.length ≤ 40) := hide (by omega)
  clear hl
  go_enter (Tri.at (by decide) Try.func12), Try.ntmps12
  go_wp2_with fail
  refine (unhide HA _).mono ?_
  rintro z w0 ⟨rfl, hb⟩
  have HB := hide hb
  clear hb HA
  go_wp2_with fail
  refine (unhide HN _ (unhide HB) (unhide HL)).mono ?_
  rintro z w1 ⟨r, e, hE, hz, hb⟩
  replace HB := hide (below_via (unhide HB) hb)
  clear hb HN
  rcases hz with ⟨he, rfl⟩ | ⟨rfl, a1, c1, rfl, hr, hs, hfr⟩
  · have t0 : (e != 0) = true := by simpa using he
    replace HB := hide (below_via (unhide HB) (below1L w1 (.cells #[.int .i64 0, .int .i64 0, .int .i64 0, .int .i64 0, .int .i64 0, .int .i64 0, .int .i64 0, .int .i64 0, .int .i64 0, .int .i64 0, .int .i64 0, .int .i64 0, .slice none 0 0] 62)))
    clear hE he
    go_wp2_with fail
    go_ret
    exact ⟨rfl, unhide HB⟩
  clear hfr
  have t0 : ((0 : Int) != 0) = false := rfl
  have HI := hide (einv_new hE)
  have hlb : w.heap.size ≤ w1.heap.size := (unhide HB).size
  replace HB := hide (below_via (unhide HB) (below1L w1 (.cells #[.int .i64 (newK 7 out r).id, .int .i64 (newK 7 out r).st, .int .i64 (newK 7 out r).be, .int .i64 (newK 7 out r).out, .int .i64 (newK 7 out r).rt, .int .i64 (newK 7 out r).gr, .int .i64 (newK 7 out r).due, .int .i64 (newK 7 out r).inc, .int .i64 (newK 7 out r).got, .int .i64 (newK 7 out r).adj, .int .i64 (newK 7 out r).wri, .int .i64 (newK 7 out r).rcv, .slice a1 l.length c1] 62)))
  have HK := hide (Blk.new w1 #[.int .i64 (newK 7 out r).id, .int .i64 (newK 7 out r).st, .int .i64 (newK 7 out r).be, .int .i64 (newK 7 out r).out, .int .i64 (newK 7 out r).rt, .int .i64 (newK 7 out r).gr, .int .i64 (newK 7 out r).due, .int .i64 (newK 7 out r).inc, .int .i64 (newK 7 out r).got, .int .i64 (newK 7 out r).adj, .int .i64 (newK 7 out r).wri, .int .i64 (newK 7 out r).rcv, .slice a1 l.length c1] 62)
  have HR1 := hide (hr.alloc (.cells #[.int .i64 (newK 7 out r).id, .int .i64 (newK 7 out r).st, .int .i64 (newK 7 out r).be, .int .i64 (newK 7 out r).out, .int .i64 (newK 7 out r).rt, .int .i64 (newK 7 out r).gr, .int .i64 (newK 7 out r).due, .int .i64 (newK 7 out r).inc, .int .i64 (newK 7 out r).got, .int .i64 (newK 7 out r).adj, .int .i64 (newK 7 out r).wri, .int .i64 (newK 7 out r).rcv, .slice a1 l.length c1] 62))
  have HS1 := hide hs
  clear hE hr hs
  generalize newK 7 out r = K0 at *
  go_wp2_with fail
  go_loopw [29] (fun i wr => ∃ (k : Nat) (L : Ln) (a' : Option Addr) (c' : Nat), k ≤ l.length ∧ i = .int .i64 k ∧ Hid (EL w wr w1.heap.size out l k L a' c')) (fun i _ => l.length - (intOf i).toNat)
  case atStart => exact ⟨0, K0, a1, c1, Nat.zero_le _, rfl, hide ⟨unhide HI, unhide HK, unhide HR1, unhide HS1, unhide HB⟩⟩
  case round =>
    obtain ⟨k, L, a', c', hk, rfl, HE⟩ := hrel
    clear HI HK HR1 HS1 HB
    by_cases hlt : k < l.length
    · have k1 : (k : Int) < (l.length : Int) := by omega
      have HRw := hide ((unhide HR).below (unhide HE).bel (Nat.le_refl _))
      obtain ⟨fb, fo, fa⟩ : ∃ fb fo, a = some ⟨fb, fo, none⟩ := by
        rcases unhide HR with ⟨_, _, _, e⟩ | ⟨b, o, c', e, _⟩
        · rw [e] at hlt; exact absurd hlt (Nat.not_lt_zero k)
        · injection e with e1
          exact ⟨b, o, e1⟩
      subst fa
      have d0 := row_cell (unhide HRw) hlt
      have H3 := hide (step3 (einv_chk (unhide HE).inv hlt))
      have HNx := hide (fun he => einv_next (unhide HE).inv hlt he)
      have HSt0 := hide (fun (p : Int) => step_1 (L := L) (p := p) (unhide HE).row (unhide HE).sl (by have := unhide HL; simp; omega))
      have HSt : Hid (_) := hide (unhide HSt0 (l.getD k 0))
      clear HSt0
      have HBl := hide (unhide HE).blk
      generalize stepE 1 L (l.drop k) (l.getD k 0) = E at *
      generalize stepR 1 L (l.drop k) (l.getD k 0) = R at *
      generalize l.getD k 0 = x at *
      obtain ⟨K, l3, ⟨m0, m1, m2, m3⟩⟩ := R
      simp only at HSt HNx
      generalize hn3 : l3.length = n3 at HSt
      generalize hnk : (l.drop k).length = nk at HSt HBl
      have HN3 := hide hn3
      have HNK := hide hnk
      clear hn3 hnk
      have h0c := (unhide HBl).at 0 (.int .i64 L.id) rfl
      have h1c := (unhide HBl).at 1 (.int .i64 L.st) rfl
      have h2c := (unhide HBl).at 2 (.int .i64 L.be) rfl
      have h3c := (unhide HBl).at 3 (.int .i64 L.out) rfl
      have h4c := (unhide HBl).at 4 (.int .i64 L.rt) rfl
      have h5c := (unhide HBl).at 5 (.int .i64 L.gr) rfl
      have h6c := (unhide HBl).at 6 (.int .i64 L.due) rfl
      have h7c := (unhide HBl).at 7 (.int .i64 L.inc) rfl
      have h8c := (unhide HBl).at 8 (.int .i64 L.got) rfl
      have h9c := (unhide HBl).at 9 (.int .i64 L.adj) rfl
      have h10c := (unhide HBl).at 10 (.int .i64 L.wri) rfl
      have h11c := (unhide HBl).at 11 (.int .i64 L.rcv) rfl
      have h12c := (unhide HBl).at 12 (.slice a' nk c') rfl
      go_wp2_with fail
      refine (unhide HSt).mono ?_
      rintro z w3 ⟨a3, c3, rfl, hr, hs, hf, hb⟩
      have HF := hide hf
      have HR3 := hide hr
      have HS3 := hide hs
      have HB3 := hide hb
      clear hr hs hf hb HSt h0c h1c h2c h3c h4c h5c h6c h7c h8c h9c h10c h11c h12c
      have bb : Below w3.heap.size w3 ((w3.alloc (.cells #[.int .i64 K.id, .int .i64 K.st, .int .i64 K.be, .int .i64 K.out, .int .i64 K.rt, .int .i64 K.gr, .int .i64 K.due, .int .i64 K.inc, .int .i64 K.got, .int .i64 K.adj, .int .i64 K.wri, .int .i64 K.rcv, .slice a3 n3 c3] 62)).alloc (.cells #[.int .i64 m0, .int .i64 m1, .int .i64 m2, .int .i64 m3] 74)) := (below1L w3 _).alloc (by simp) _
      have HBB := hide (below_via (below_via (unhide HE).bel (unhide HB3)) bb)
      have HBk : Hid (Blk ((w3.alloc (.cells #[.int .i64 K.id, .int .i64 K.st, .int .i64 K.be, .int .i64 K.out, .int .i64 K.rt, .int .i64 K.gr, .int .i64 K.due, .int .i64 K.inc, .int .i64 K.got, .int .i64 K.adj, .int .i64 K.wri, .int .i64 K.rcv, .slice a3 n3 c3] 62)).alloc (.cells #[.int .i64 m0, .int .i64 m1, .int .i64 m2, .int .i64 m3] 74)) w1.heap.size #[.int .i64 L.id, .int .i64 L.st, .int .i64 L.be, .int .i64 L.out, .int .i64 L.rt, .int .i64 L.gr, .int .i64 L.due, .int .i64 L.inc, .int .i64 L.got, .int .i64 L.adj, .int .i64 L.wri, .int .i64 L.rcv, .slice a' nk c'] 62) := hide (((unhide HBl).keep (unhide HB3)).keep bb)
      have HR4 : Hid (Row ((w3.alloc (.cells #[.int .i64 K.id, .int .i64 K.st, .int .i64 K.be, .int .i64 K.out, .int .i64 K.rt, .int .i64 K.gr, .int .i64 K.due, .int .i64 K.inc, .int .i64 K.got, .int .i64 K.adj, .int .i64 K.wri, .int .i64 K.rcv, .slice a3 n3 c3] 62)).alloc (.cells #[.int .i64 m0, .int .i64 m1, .int .i64 m2, .int .i64 m3] 74)) (.slice a3 n3 c3) l3) := hide (((unhide HR3).alloc _).alloc _)
      have HF4 : Hid (∀ y, a3 = some y → w1.heap.size < y.block) := hide (fun y hy => Nat.lt_of_lt_of_le (unhide HBl).lt (unhide HF y hy))
      clear bb HBl HR3 HF HB3
      rcases unhide H3 with h0 | h0 | h0
      · subst h0
        obtain ⟨e3, hI⟩ := unhide HNx rfl
        have HI3 := hide hI
        have be0 : (K.be != 0) = false := by rw [hI.be]; rfl
        have du0 : (K.due != 0) = false := by rw [hI.due]; rfl
        have hn : n3 = l.length - (k + 1) := by rw [← unhide HN3, e3, List.length_drop]
        have le0 : ((n3 : Int) != (l.length : Int) - 1 - (k : Int)) = false := by
          have : (n3 : Int) = (l.length : Int) - 1 - (k : Int) := by omega
          simpa using this
        have HE3 := hide e3
        have bl1 : (l.length : Int) ≤ 40 := by have := unhide HL; omega
        clear hI hn e3 HNx H3
        have b0 := (unhide HBk).at 0 (.int .i64 L.id) rfl
        have f0 := (unhide HBk).fz 0
        have b1 := (unhide HBk).at 1 (.int .i64 L.st) rfl
        have f1 := (unhide HBk).fz 1
        have b2 := (unhide HBk).at 2 (.int .i64 L.be) rfl
        have f2 := (unhide HBk).fz 2
        have b3 := (unhide HBk).at 3 (.int .i64 L.out) rfl
        have f3 := (unhide HBk).fz 3
        have b4 := (unhide HBk).at 4 (.int .i64 L.rt) rfl
        have f4 := (unhide HBk).fz 4
        have b5 := (unhide HBk).at 5 (.int .i64 L.gr) rfl
        have f5 := (unhide HBk).fz 5
        have b6 := (unhide HBk).at 6 (.int .i64 L.due) rfl
        have f6 := (unhide HBk).fz 6
        have b7 := (unhide HBk).at 7 (.int .i64 L.inc) rfl
        have f7 := (unhide HBk).fz 7
        have b8 := (unhide HBk).at 8 (.int .i64 L.got) rfl
        have f8 := (unhide HBk).fz 8
        have b9 := (unhide HBk).at 9 (.int .i64 L.adj) rfl
        have f9 := (unhide HBk).fz 9
        have b10 := (unhide HBk).at 10 (.int .i64 L.wri) rfl
        have f10 := (unhide HBk).fz 10
        have b11 := (unhide HBk).at 11 (.int .i64 L.rcv) rfl
        have f11 := (unhide HBk).fz 11
        have b12 := (unhide HBk).at 12 (.slice a' nk c') rfl
        have f12 := (unhide HBk).fz 12
        go_wp2_with fail
        go_roundw
        case rel =>
          clear b0 f0 b1 f1 b2 f2 b3 f3 b4 f4 b5 f5 b6 f6 b7 f7 b8 f8 b9 f9 b10 f10 b11 f11 b12 f12
          have k2 : Blk (((((((((((((((((((((((((((w3.alloc (.cells #[.int .i64 K.id, .int .i64 K.st, .int .i64 K.be, .int .i64 K.out, .int .i64 K.rt, .int .i64 K.gr, .int .i64 K.due, .int .i64 K.inc, .int .i64 K.got, .int .i64 K.adj, .int .i64 K.wri, .int .i64 K.rcv, .slice a3 n3 c3] 62)).alloc (.cells #[.int .i64 m0, .int .i64 m1, .int .i64 m2, .int .i64 m3] 74)).setCell ⟨w1.heap.size, 0, none⟩ (.int .i64 K.id))).setCell ⟨w1.heap.size, 1, none⟩ (.int .i64 K.st))).setCell ⟨w1.heap.size, 2, none⟩ (.int .i64 K.be))).setCell ⟨w1.heap.size, 3, none⟩ (.int .i64 K.out))).setCell ⟨w1.heap.size, 4, none⟩ (.int .i64 K.rt))).setCell ⟨w1.heap.size, 5, none⟩ (.int .i64 K.gr))).setCell ⟨w1.heap.size, 6, none⟩ (.int .i64 K.due))).setCell ⟨w1.heap.size, 7, none⟩ (.int .i64 K.inc))).setCell ⟨w1.heap.size, 8, none⟩ (.int .i64 K.got))).setCell ⟨w1.heap.size, 9, none⟩ (.int .i64 K.adj))).setCell ⟨w1.heap.size, 10, none⟩ (.int .i64 K.wri))).setCell ⟨w1.heap.size, 11, none⟩ (.int .i64 K.rcv))).setCell ⟨w1.heap.size, 12, none⟩ (.slice a3 n3 c3)) w1.heap.size #[.int .i64 K.id, .int .i64 K.st, .int .i64 K.be, .int .i64 K.out, .int .i64 K.rt, .int .i64 K.gr, .int .i64 K.due, .int .i64 K.inc, .int .i64 K.got, .int .i64 K.adj, .int .i64 K.wri, .int .i64 K.rcv, .slice a3 n3 c3] 62 := (unhide HBk).wrL (.int .i64 K.id) (.int .i64 K.st) (.int .i64 K.be) (.int .i64 K.out) (.int .i64 K.rt) (.int .i64 K.gr) (.int .i64 K.due) (.int .i64 K.inc) (.int .i64 K.got) (.int .i64 K.adj) (.int .i64 K.wri) (.int .i64 K.rcv) (.slice a3 n3 c3)
          have k4 : Below w.heap.size w (((((((((((((((((((((((((((w3.alloc (.cells #[.int .i64 K.id, .int .i64 K.st, .int .i64 K.be, .int .i64 K.out, .int .i64 K.rt, .int .i64 K.gr, .int .i64 K.due, .int .i64 K.inc, .int .i64 K.got, .int .i64 K.adj, .int .i64 K.wri, .int .i64 K.rcv, .slice a3 n3 c3] 62)).alloc (.cells #[.int .i64 m0, .int .i64 m1, .int .i64 m2, .int .i64 m3] 74)).setCell ⟨w1.heap.size, 0, none⟩ (.int .i64 K.id))).setCell ⟨w1.heap.size, 1, none⟩ (.int .i64 K.st))).setCell ⟨w1.heap.size, 2, none⟩ (.int .i64 K.be))).setCell ⟨w1.heap.size, 3, none⟩ (.int .i64 K.out))).setCell ⟨w1.heap.size, 4, none⟩ (.int .i64 K.rt))).setCell ⟨w1.heap.size, 5, none⟩ (.int .i64 K.gr))).setCell ⟨w1.heap.size, 6, none⟩ (.int .i64 K.due))).setCell ⟨w1.heap.size, 7, none⟩ (.int .i64 K.inc))).setCell ⟨w1.heap.size, 8, none⟩ (.int .i64 K.got))).setCell ⟨w1.heap.size, 9, none⟩ (.int .i64 K.adj))).setCell ⟨w1.heap.size, 10, none⟩ (.int .i64 K.wri))).setCell ⟨w1.heap.size, 11, none⟩ (.int .i64 K.rcv))).setCell ⟨w1.heap.size, 12, none⟩ (.slice a3 n3 c3)) := below_putL (unhide HBB) hlb (.int .i64 K.id) (.int .i64 K.st) (.int .i64 K.be) (.int .i64 K.out) (.int .i64 K.rt) (.int .i64 K.gr) (.int .i64 K.due) (.int .i64 K.inc) (.int .i64 K.got) (.int .i64 K.adj) (.int .i64 K.wri) (.int .i64 K.rcv) (.slice a3 n3 c3)
          have k5 : Row (((((((((((((((((((((((((((w3.alloc (.cells #[.int .i64 K.id, .int .i64 K.st, .int .i64 K.be, .int .i64 K.out, .int .i64 K.rt, .int .i64 K.gr, .int .i64 K.due, .int .i64 K.inc, .int .i64 K.got, .int .i64 K.adj, .int .i64 K.wri, .int .i64 K.rcv, .slice a3 n3 c3] 62)).alloc (.cells #[.int .i64 m0, .int .i64 m1, .int .i64 m2, .int .i64 m3] 74)).setCell ⟨w1.heap.size, 0, none⟩ (.int .i64 K.id))).setCell ⟨w1.heap.size, 1, none⟩ (.int .i64 K.st))).setCell ⟨w1.heap.size, 2, none⟩ (.int .i64 K.be))).setCell ⟨w1.heap.size, 3, none⟩ (.int .i64 K.out))).setCell ⟨w1.heap.size, 4, none⟩ (.int .i64 K.rt))).setCell ⟨w1.heap.size, 5, none⟩ (.int .i64 K.gr))).setCell ⟨w1.heap.size, 6, none⟩ (.int .i64 K.due))).setCell ⟨w1.heap.size, 7, none⟩ (.int .i64 K.inc))).setCell ⟨w1.heap.size, 8, none⟩ (.int .i64 K.got))).setCell ⟨w1.heap.size, 9, none⟩ (.int .i64 K.adj))).setCell ⟨w1.heap.size, 10, none⟩ (.int .i64 K.wri))).setCell ⟨w1.heap.size, 11, none⟩ (.int .i64 K.rcv))).setCell ⟨w1.heap.size, 12, none⟩ (.slice a3 n3 c3)) (.slice a3 n3 c3) l3 := Row.offL (unhide HR4) (fun y hy => by have := unhide HF4 y hy; omega) (.int .i64 K.id) (.int .i64 K.st) (.int .i64 K.be) (.int .i64 K.out) (.int .i64 K.rt) (.int .i64 K.gr) (.int .i64 K.due) (.int .i64 K.inc) (.int .i64 K.got) (.int .i64 K.adj) (.int .i64 K.wri) (.int .i64 K.rcv) (.slice a3 n3 c3)
          have e3 := unhide HE3
          have n3e := unhide HN3
          have k6 := unhide HI3
          have k7 := unhide HS3
          subst n3e
          subst e3
          exact ⟨k + 1, K, a3, c3, by omega, by go_num, hide ⟨k6, k2, k5, k7, k4⟩⟩
        case measure => simp [intOf]; omega
      · subst h0
        go_wp2_with fail
        go_ret
        exact ⟨rfl, unhide HBB⟩
      · subst h0
        go_wp2_with fail
        go_ret
        exact ⟨rfl, unhide HBB⟩
    · have ek : k = l.length := by omega
      subst ek
      obtain ⟨q1, q2, q3, q4, q5, q6⟩ := einv_end (unhide HE).inv
      have q7 := (unhide HE).inv.rt.out
      rw [(unhide HE).inv.o] at q7
      have HSm : Hid (Calls (Tri Try.prog) 39 #[.slice a l.length c] wr fun e w' => ∃ x, e = .returned (.tuple #[.int .i64 (total l), .int .i64 x]) ∧ wr = w') := hide ((sumM_any _ l wr ((unhide HR).below (unhide HE).bel (Nat.le_refl _))).mono fun e w' ⟨h1, h2⟩ => ⟨okE (total l), by rw [h1, okN_in (turn_in ⟨by omega, by omega⟩)], h2⟩)
      have HBl := hide (unhide HE).blk
      generalize total l = T at *
      have d1 : (L.st == 2) = true := by simpa using q1
      have d2 : (L.gr == 0) = true := by simpa using q2
      have d3 : (L.inc == T - out) = true := by simpa using q3
      have d4 : (L.got == T) = true := by simpa using q4
      obtain ⟨q8, q9⟩ := q7
      clear q1 q2 q3 q4
      have HBf := hide (unhide HE).bel
      have c1 := (unhide HBl).at 1 (.int .i64 L.st) rfl
      have c5 := (unhide HBl).at 5 (.int .i64 L.gr) rfl
      have c7 := (unhide HBl).at 7 (.int .i64 L.inc) rfl
      have c8 := (unhide HBl).at 8 (.int .i64 L.got) rfl
      clear hlt hk HE HBl HR
      go_wp2_with fail
      refine (unhide HSm).mono ?_
      rintro z w4 ⟨x, rfl, rfl⟩
      clear HSm
      go_wp2_with fail
      go_ret
      exact ⟨rfl, unhide HBf⟩
end Go.Proofs.Ytlaaomhcilnbkaa.Mn
