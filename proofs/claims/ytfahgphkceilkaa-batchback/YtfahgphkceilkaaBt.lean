/- A batch: Check, To, From. -/
import Derived.Test.YtfahgphkceilkaaCk
import Derived.Test.YtfahgphkceilkaaBq
import Derived.Test.YtfahgphkceilkaaBy
import Derived.BigRegion
import Derived.Handy
import Derived.Deep.RegionHeld
import Derived.Deep.RegionHeld3
namespace Go.Proofs.Ytfahgphkceilkaa
open Go.RowKit
set_option linter.unusedVariables false
set_option linter.unusedSimpArgs false
theorem anyH_at {P : Program} {md : Region.Mode} {ops : Array Oper} {Q : Exit → Act → World → Prop} {S : World → Prop} {i : Nat} {oi : Oper} {v : Value} {fuel : Nat} {listed : Array Bool} {a : Act} {w : World} (d : Nat) (hi : ops[i]? = some oi) (hd : oi.dst = some d)
    (hs : Region.noSelect ops = true) (hf : Region.free md ops listed i = true) (hr : (Region.ready md ops listed).contains i = true)
    (hQ : ∀ c a w, Q (.panic c) (a.put (some d) v) w → Q (.panic c) a w) (hy : YieldsIf P ops S oi v a) (hS : S w)
    (h : wpAnyH P md ops Q S fuel (listed.setIfInBounds i true) (a.put (some d) v) w) : wpAnyH P md ops Q S (fuel + 1) listed a w := by
  rw [← hd] at h
  exact wpAnyH_take hi hs hf hr (by rw [hd]; exact hQ) hy hS h
theorem storeO_blk {op : Oper} {a : Act} {w : World} {K : Act → World → Prop} {Q : Exit → Act → World → Prop} (ty : TypeId) (x y : Operand) (ho : op.op = .store ty x y) {b : Nat} {T : TypeId} {old cells : Array Value} (hB : Blk w b old T) (hx : a.eval x = .pointer (some ⟨b, 0, none⟩)) (hy : a.eval y = .agg cells) {n : Nat} (hi : (Try.prog.info? ty).map (·.size) = some n) (ho' : old.size = n) (hn : cells.size = n) (h1 : cells.toList.all Value.oneCell' = true)
    (h : ∀ W, Blk W b cells T → Past w W b → K (a.put op.dst undef) W) : op.wp Try.prog a w K Q :=
  wp_store_mid ty x y ho b 0 cells hx hy (hB.there (ho'.trans hn.symm)) (hi.trans (by rw [hn])) (all_oneCell_toArray (cs := cells.toList) (fun v hv => List.all_eq_true.1 h1 v hv)) (h _ (by have k := blk_setCells cells.toList 0 hB; rw [sets_all (ho'.trans hn.symm)] at k; exact k) (past_setCells _ _ _))
theorem below_keep {B : Nat} {w W W' : World} (h : Below B w W) (k : Below W.heap.size W W') (hB : B ≤ W.heap.size) : Below B w W' := h.trans (k.mono hB)
theorem size32 : (Try.prog.info? 32).map (·.size) = some 3 := by kernel_rfl
theorem row32 : isRowB Try.prog 32 = true := by kernel_rfl
theorem size24 : (Try.prog.info? 24).map (·.size) = some 3 := by kernel_rfl
theorem row24 : isRowB Try.prog 24 = true := by kernel_rfl
abbrev btA (s e : Int) (v : Value) : Array Value := #[.int .i64 s, .int .i64 e, v]
theorem bd32 (s e : Int) (x : Option Addr) (n c : Nat) (w : World) : Sem.run Try.prog (Instr.build 32 #[(0, .int .i64 s), (1, .int .i64 e), (2, .slice x n c)]) w = .ok (.agg (btA s e (.slice x n c))) w := by kernel_rfl
theorem bd24 (s e : Int) (x : Option Addr) (n c : Nat) (w : World) : Sem.run Try.prog (Instr.build 24 #[(0, .int .i64 s), (1, .int .i64 e), (2, .slice x n c)]) w = .ok (.agg (btA s e (.slice x n c))) w := by kernel_rfl
theorem may_n (n : Int) (w : World) : Calls Try.prog 28 #[.int .i64 n] w fun e w' => e = .returned (.bool (mayN n)) ∧ w' = w := by
  by_cases h1 : 0 ≤ n
  · by_cases h2 : n ≤ 2147483647
    · have HE := hide (show mayN n = true by unfold mayN; simp [h1, h2])
      go_enter Try.func28, Try.ntmps28
      go_wp2_with fail
      go_ret
      exact ⟨by rw [unhide HE]; rfl, rfl⟩
    · have HE := hide (show mayN n = false by unfold mayN; simp; omega)
      go_enter Try.func28, Try.ntmps28
      go_wp2_with fail
      go_ret
      exact ⟨by rw [unhide HE]; rfl, rfl⟩
  · have HE := hide (show mayN n = false by unfold mayN; simp; omega)
    go_enter Try.func28, Try.ntmps28
    go_wp2_with fail
    go_ret
    exact ⟨by rw [unhide HE]; rfl, rfl⟩
theorem size_any (n : Nat) (w : World) (h : n ≤ 1000) : Calls Try.prog 22 #[.int .i64 (n : Int)] w fun e w' => e = .returned (.int .i64 (15 + 9 * (n : Int))) ∧ w' = w := by
  have h1 : IntKind.i64.wrap ((n : Int) * 9) = (n : Int) * 9 := wrap_in' ⟨by omega, by omega⟩
  have h2 : IntKind.i64.wrap (11 + (n : Int) * 9) = 11 + (n : Int) * 9 := wrap_in' ⟨by omega, by omega⟩
  have h3 : IntKind.i64.wrap (11 + (n : Int) * 9 + 4) = 15 + 9 * (n : Int) := by rw [wrap_in' ⟨by omega, by omega⟩]; omega
  go_enter Try.func22, Try.ntmps22
  go_wp2_with fail
  go_ret
  exact ⟨by first | rfl | simp [h1, h2, h3], rfl⟩
theorem chkB_no1 {s e : Int} {l : List Li} (h : mayN s = false) : chkB s e l = 2 := by unfold chkB; rw [if_neg (by rw [h]; simp)]
theorem chkB_no2 {s e : Int} {l : List Li} (h : mayN e = false) : chkB s e l = 2 := by unfold chkB; rw [if_neg (by rw [h]; simp)]
theorem chkB_nil {s e : Int} {l : List Li} (h : mayN s = true) (h' : mayN e = true) (h0 : l.length = 0) : chkB s e l = 0 := by unfold chkB; rw [if_pos ⟨h, h'⟩, if_pos h0]
theorem chkB_row {s e : Int} {l : List Li} (h : mayN s = true) (h' : mayN e = true) (h0 : ¬ l.length = 0) : chkB s e l = chkE l := by unfold chkB; rw [if_pos ⟨h, h'⟩, if_neg h0]
set_option maxHeartbeats 1000000 in
theorem chkb_any (s e : Int) (v : Value) (l : List Li) (w : World) (h : RowG 2 w v (l.map liL)) : Calls Try.prog 14 #[.agg #[.int .i64 s, .int .i64 e, v]] w fun r w' => r = .returned (.int .i64 (chkB s e l)) ∧ Below w.heap.size w w' := by
  obtain ⟨a, cap, rfl⟩ := rowG_slice h
  rw [List.length_map] at h ⊢
  have HR := hide (h.alloc (.cells #[.int .i64 s, .int .i64 e, .slice a l.length cap] 32))
  have HB := hide (below1 w (.cells #[.int .i64 s, .int .i64 e, .slice a l.length cap] 32))
  have HQ := hide (fun W h => chk_any (.slice a l.length cap) l W h)
  have HM1 := hide (fun W => may_n s W)
  have HM2 := hide (fun W => may_n e W)
  clear h
  cases h1 : mayN s with
  | false =>
    have HE := hide (chkB_no1 (s := s) (e := e) (l := l) h1)
    rw [h1] at HM1
    generalize l.length = n at *
    clear HQ HR HM2
    go_enter Try.func14, Try.ntmps14
    go_wp2_with fail
    refine (unhide HM1 _).mono ?_
    rintro r w2 ⟨rfl, rfl⟩
    go_wp2_with fail
    go_ret
    exact ⟨by rw [unhide HE]; rfl, unhide HB⟩
  | true =>
    rw [h1] at HM1
    cases h2 : mayN e with
    | false =>
      have HE := hide (chkB_no2 (s := s) (e := e) (l := l) h2)
      rw [h2] at HM2
      generalize l.length = n at *
      clear HQ HR
      go_enter Try.func14, Try.ntmps14
      go_wp2_with fail
      refine (unhide HM1 _).mono ?_
      rintro r w2 ⟨rfl, rfl⟩
      go_wp2_with fail
      refine (unhide HM2 _).mono ?_
      rintro r w2 ⟨rfl, rfl⟩
      go_wp2_with fail
      go_ret
      exact ⟨by rw [unhide HE]; rfl, unhide HB⟩
    | true =>
      rw [h2] at HM2
      go_enter Try.func14, Try.ntmps14
      go_wp2_with fail
      refine (unhide HM1 _).mono ?_
      rintro r w2 ⟨rfl, rfl⟩
      go_wp2_with fail
      refine (unhide HM2 _).mono ?_
      rintro r w2 ⟨rfl, rfl⟩
      by_cases h0 : l.length = 0
      · have HE := hide (chkB_nil (l := l) h1 h2 h0)
        generalize l.length = n at *
        subst h0
        clear HQ HR
        go_wp2_with fail
        go_ret
        exact ⟨by rw [unhide HE]; rfl, unhide HB⟩
      · have HE := hide (chkB_row (l := l) h1 h2 h0)
        generalize hn : l.length = n at *
        have h3 : ¬ (n : Int) = 0 := by omega
        go_wp2_with fail
        refine (unhide HQ _ (unhide HR)).mono ?_
        rintro r w2 ⟨rfl, hb⟩
        replace HB := hide (below_via (unhide HB) hb)
        clear hb HQ HR
        go_wp2_with fail
        go_ret
        exact ⟨by rw [unhide HE]; rfl, unhide HB⟩
set_option maxHeartbeats 1000000 in
theorem rchkb_any (s e : Int) (v : Value) (l : List Li) (w : World) (h : RowG 2 w v (l.map liL)) : Calls Try.prog 15 #[.agg #[.int .i64 s, .int .i64 e, v]] w fun r w' => r = .returned (.int .i64 (chkB s e l)) ∧ Below w.heap.size w w' := by
  obtain ⟨a, cap, rfl⟩ := rowG_slice h
  rw [List.length_map] at h ⊢
  have HR := hide (h.alloc (.cells #[.int .i64 s, .int .i64 e, .slice a l.length cap] 24))
  have HB := hide (below1 w (.cells #[.int .i64 s, .int .i64 e, .slice a l.length cap] 24))
  have HQ := hide (fun W h => rchk_any (.slice a l.length cap) l W h)
  clear h
  by_cases a1 : s < 0
  · have HE := hide (chkB_no1 (s := s) (e := e) (l := l) (by unfold mayN; simp; omega))
    generalize l.length = n at *
    clear HQ HR
    go_enter Try.func15, Try.ntmps15
    go_wp2_with fail
    go_ret
    exact ⟨by rw [unhide HE]; rfl, unhide HB⟩
  by_cases a2 : 2147483647 < s
  · have HE := hide (chkB_no1 (s := s) (e := e) (l := l) (by unfold mayN; simp; omega))
    generalize l.length = n at *
    clear HQ HR
    go_enter Try.func15, Try.ntmps15
    go_wp2_with fail
    go_ret
    exact ⟨by rw [unhide HE]; rfl, unhide HB⟩
  by_cases a3 : e < 0
  · have HE := hide (chkB_no2 (s := s) (e := e) (l := l) (by unfold mayN; simp; omega))
    generalize l.length = n at *
    clear HQ HR
    go_enter Try.func15, Try.ntmps15
    go_wp2_with fail
    go_ret
    exact ⟨by rw [unhide HE]; rfl, unhide HB⟩
  by_cases a4 : 2147483647 < e
  · have HE := hide (chkB_no2 (s := s) (e := e) (l := l) (by unfold mayN; simp; omega))
    generalize l.length = n at *
    clear HQ HR
    go_enter Try.func15, Try.ntmps15
    go_wp2_with fail
    go_ret
    exact ⟨by rw [unhide HE]; rfl, unhide HB⟩
  have h1 : mayN s = true := by unfold mayN; simp; omega
  have h2 : mayN e = true := by unfold mayN; simp; omega
  by_cases h0 : l.length = 0
  · have HE := hide (chkB_nil (l := l) h1 h2 h0)
    generalize l.length = n at *
    subst h0
    clear HQ HR
    go_enter Try.func15, Try.ntmps15
    go_wp2_with fail
    go_ret
    exact ⟨by rw [unhide HE]; rfl, unhide HB⟩
  · have HE := hide (chkB_row (l := l) h1 h2 h0)
    generalize hn : l.length = n at *
    have h3 : ¬ (n : Int) = 0 := by omega
    go_enter Try.func15, Try.ntmps15
    go_wp2_with fail
    refine (unhide HQ _ (unhide HR)).mono ?_
    rintro r w2 ⟨rfl, hb⟩
    replace HB := hide (below_via (unhide HB) hb)
    clear hb HQ HR
    go_wp2_with fail
    go_ret
    exact ⟨by rw [unhide HE]; rfl, unhide HB⟩
theorem growG_past {E : TypeId} {m : Nat} {w wr W : World} {v : Value} {l : List (List Value)} {b : Nat} (h : GrowG E m w wr v l) (kp : Past wr W b) (hb : some b ≠ v.ownBlock) (hB : Below w.heap.size w W) : GrowG E m w W v l := by
  obtain ⟨h1, ⟨h2, h3⟩, h4⟩ := h
  refine ⟨hB, ⟨h2, ?_⟩, h4⟩
  rcases h3 with h3 | ⟨g, cap, cur, e1, e2, e3, e4⟩
  · exact Or.inl h3
  · refine Or.inr ⟨g, cap, cur, e1, e2, kp.blk (fun e => hb ?_) e3, e4⟩
    rw [e1, ← e]
    rfl
set_option maxHeartbeats 2000000 in
theorem tob_any (s e : Int) (v : Value) (l : List Li) (w : World) (h : RowG 2 w v (l.map liL)) (hm : l.length ≤ 10000) : Calls Try.prog 11 #[.agg #[.int .i64 s, .int .i64 e, v]] w fun r w' => ∃ u, r = .returned (.agg #[.int .i64 s, .int .i64 e, u]) ∧ GrowG 54 2 w w' u (l.map liL) := by
  obtain ⟨a, cap, rfl⟩ := rowG_slice h
  generalize (l.map liL).length = n at *
  have HR := hide ((h.alloc (.cells #[.int .i64 s, .int .i64 e, .slice a n cap] 24)).alloc (.cells #[.int .i64 0, .int .i64 0, .slice none 0 0] 32))
  have HQ := hide (fun W h => to_any (.slice a n cap) l W h hm)
  have HX := hide ((Blk.new w #[.int .i64 s, .int .i64 e, .slice a n cap] 24).alloc (.cells #[.int .i64 0, .int .i64 0, .slice none 0 0] 32))
  have HY := hide (Blk.new (w.alloc (.cells #[.int .i64 s, .int .i64 e, .slice a n cap] 24)) #[.int .i64 0, .int .i64 0, .slice none 0 0] 32)
  have HB := hide (below_via (below1 w (.cells #[.int .i64 s, .int .i64 e, .slice a n cap] 24)) (below1 _ (.cells #[.int .i64 0, .int .i64 0, .slice none 0 0] 32)))
  have hsz : (w.alloc (.cells #[.int .i64 s, .int .i64 e, .slice a n cap] 24)).heap.size = w.heap.size + 1 := by simp
  rw [hsz] at HY
  clear h hsz hm
  go_enter Try.func11, Try.ntmps11
  go_wp2_with fail
  generalize (w.alloc (.cells #[.int .i64 s, .int .i64 e, .slice a n cap] 24)).alloc (.cells #[.int .i64 0, .int .i64 0, .slice none 0 0] 32) = W0 at *
  have bd := (Below.refl W0.heap.size W0).drew
  replace HR := hide ((show RowG _ _ _ _ from unhide HR).keep bd)
  replace HY := hide ((show Blk _ _ _ _ from unhide HY).keep bd)
  refine wp_region_held_drew (S := fun W => Blk W w.heap.size #[.int .i64 s, .int .i64 e, .slice a n cap] 24 ∧ Below w.heap.size w W) (by kernel_rfl) ⟨(show Blk _ _ _ _ from unhide HX).keep bd, below_via (unhide HB) bd⟩ (fun hS => ?_)
  generalize hV : W0.drew = V0 at *
  clear hV bd HX HB W0
  refine anyH_at (i := 0) (v := .pointer (some ⟨w.heap.size, 0, none⟩)) 3 rfl (by kernel_rfl) (by kernel_rfl) (by kernel_rfl) (by kernel_rfl) (fun _ _ _ h => h) (Or.inl ⟨by kernel_rfl, fun W hS => by go_simp⟩) hS ?_
  try simp only [Act.put, List.setIfInBounds_toArray, List.set_cons_zero, List.set_cons_succ]
  refine anyH_at (i := 1) (v := .int .i64 s) 4 rfl (by kernel_rfl) (by kernel_rfl) (by kernel_rfl) (by kernel_rfl) (fun _ _ _ h => h) (Or.inl ⟨by kernel_rfl, fun W hS => by have f1 := hS.1.at 0 (.int .i64 s) rfl; go_simp⟩) hS ?_
  try simp only [Act.put, List.setIfInBounds_toArray, List.set_cons_zero, List.set_cons_succ]
  refine anyH_at (i := 2) (v := .pointer (some ⟨w.heap.size, 1, none⟩)) 5 rfl (by kernel_rfl) (by kernel_rfl) (by kernel_rfl) (by kernel_rfl) (fun _ _ _ h => h) (Or.inl ⟨by kernel_rfl, fun W hS => by go_simp⟩) hS ?_
  try simp only [Act.put, List.setIfInBounds_toArray, List.set_cons_zero, List.set_cons_succ]
  refine anyH_at (i := 3) (v := .int .i64 e) 6 rfl (by kernel_rfl) (by kernel_rfl) (by kernel_rfl) (by kernel_rfl) (fun _ _ _ h => h) (Or.inl ⟨by kernel_rfl, fun W hS => by have f1 := hS.1.at 1 (.int .i64 e) rfl; go_simp⟩) hS ?_
  try simp only [Act.put, List.setIfInBounds_toArray, List.set_cons_zero, List.set_cons_succ]
  refine anyH_at (i := 4) (v := .pointer (some ⟨w.heap.size, 2, none⟩)) 7 rfl (by kernel_rfl) (by kernel_rfl) (by kernel_rfl) (by kernel_rfl) (fun _ _ _ h => h) (Or.inl ⟨by kernel_rfl, fun W hS => by go_simp⟩) hS ?_
  try simp only [Act.put, List.setIfInBounds_toArray, List.set_cons_zero, List.set_cons_succ]
  refine anyH_at (i := 5) (v := .slice a n cap) 8 rfl (by kernel_rfl) (by kernel_rfl) (by kernel_rfl) (by kernel_rfl) (fun _ _ _ h => h) (Or.inl ⟨by kernel_rfl, fun W hS => by have f1 := hS.1.at 2 (.slice a n cap) rfl; go_simp⟩) hS ?_
  try simp only [Act.put, List.setIfInBounds_toArray, List.set_cons_zero, List.set_cons_succ]
  refine wpAnyH_all (rs := [6]) (by kernel_rfl) (by simp) (AllReadyH.cons (i := 6) rfl (fun KK hK => ?_) AllReadyH.nil)
  rw [if_pos (by kernel_rfl)]
  have hQ := hide (unhide HQ V0 (unhide HR))
  have hS0 := hide hS
  clear hS HR HQ
  go_wp2_with fail
  refine (unhide hQ).mono ?_
  rintro r V1 ⟨u, rfl, hg⟩
  have hS1 := hide (show Blk V1 w.heap.size #[.int .i64 s, .int .i64 e, .slice a n cap] 24 ∧ Below w.heap.size w V1 from ⟨(unhide hS0).1.keep hg.below, below_via (unhide hS0).2 hg.below⟩)
  have HN := hide (hg.own (show Blk _ _ _ _ from unhide HY).lt)
  replace HY := hide ((show Blk _ _ _ _ from unhide HY).keep hg.below)
  have HG := hide (hg.from (unhide hS0).2)
  obtain ⟨x, nx, cx, rfl⟩ : ∃ x nx cx, u = .slice x nx cx := by
    obtain ⟨x, cx, e1⟩ := rowG_slice hg.row
    exact ⟨x, _, cx, e1⟩
  clear hg hQ hS0
  go_wp2_with fail
  refine hK.out _ _ (unhide hS1) (fun hS => ?_)
  clear hK hS1
  try simp only [Act.put, List.setIfInBounds_toArray, List.set_cons_zero, List.set_cons_succ]
  refine anyH_at (i := 7) (v := .agg #[.int .i64 s, .int .i64 e, .slice x nx cx]) 10 rfl (by kernel_rfl) (by kernel_rfl) (by kernel_rfl) (by kernel_rfl) (fun _ _ _ h => h) (Or.inl ⟨by kernel_rfl, fun W hS => by have f1 := bd32 s e x nx cx W; go_simp⟩) hS ?_
  try simp only [Act.put, List.setIfInBounds_toArray, List.set_cons_zero, List.set_cons_succ]
  refine wpAnyH_all (rs := [8]) (by kernel_rfl) (by simp) (AllReadyH.cons (i := 8) rfl (fun KK hK => ?_) AllReadyH.nil)
  rw [if_pos (by kernel_rfl)]
  refine storeO_blk 32 _ _ rfl (show Blk _ _ _ _ from unhide HY) rfl rfl size32 rfl rfl rfl ?_
  intro V2 k2 kp
  have hS1 := hide (show Blk V2 w.heap.size #[.int .i64 s, .int .i64 e, .slice a n cap] 24 ∧ Below w.heap.size w V2 from ⟨kp.blk (Nat.ne_of_lt (Nat.lt_succ_self _)) hS.1, kp.bel (Nat.le_succ _) hS.2⟩)
  replace HG := hide (growG_past (show GrowG _ _ _ _ _ _ from unhide HG) kp (unhide HN) (unhide hS1).2)
  clear kp hS HY HN
  refine hK.out _ _ (unhide hS1) (fun hS => ?_)
  clear hK hS1
  refine wpAnyH_done (by kernel_rfl) ?_ _
  clear hS
  go_wp2_with fail
  exact bodyPost_ret (v := .agg #[.int .i64 s, .int .i64 e, .slice x nx cx]) (res_c (cs0 := #[.int .i64 s, .int .i64 e, .slice x nx cx]) rfl k2 row32 size32 rfl rfl) rfl ⟨_, rfl, unhide HG⟩
set_option maxHeartbeats 2000000 in
theorem fromb_any (s e : Int) (v : Value) (l : List Li) (w : World) (h : RowG 2 w v (l.map liL)) (hm : l.length ≤ 10000) : Calls Try.prog 21 #[.agg #[.int .i64 s, .int .i64 e, v]] w fun r w' => ∃ u, r = .returned (.agg #[.int .i64 s, .int .i64 e, u]) ∧ GrowG 60 2 w w' u (l.map liL) := by
  obtain ⟨a, cap, rfl⟩ := rowG_slice h
  generalize (l.map liL).length = n at *
  have HR := hide ((h.alloc (.cells #[.int .i64 s, .int .i64 e, .slice a n cap] 32)).alloc (.cells #[.int .i64 0, .int .i64 0, .slice none 0 0] 24))
  have HQ := hide (fun W h => from_any (.slice a n cap) l W h hm)
  have HX := hide ((Blk.new w #[.int .i64 s, .int .i64 e, .slice a n cap] 32).alloc (.cells #[.int .i64 0, .int .i64 0, .slice none 0 0] 24))
  have HY := hide (Blk.new (w.alloc (.cells #[.int .i64 s, .int .i64 e, .slice a n cap] 32)) #[.int .i64 0, .int .i64 0, .slice none 0 0] 24)
  have HB := hide (below_via (below1 w (.cells #[.int .i64 s, .int .i64 e, .slice a n cap] 32)) (below1 _ (.cells #[.int .i64 0, .int .i64 0, .slice none 0 0] 24)))
  have hsz : (w.alloc (.cells #[.int .i64 s, .int .i64 e, .slice a n cap] 32)).heap.size = w.heap.size + 1 := by simp
  rw [hsz] at HY
  clear h hsz hm
  go_enter Try.func21, Try.ntmps21
  go_wp2_with fail
  generalize (w.alloc (.cells #[.int .i64 s, .int .i64 e, .slice a n cap] 32)).alloc (.cells #[.int .i64 0, .int .i64 0, .slice none 0 0] 24) = W0 at *
  have bd := (Below.refl W0.heap.size W0).drew
  replace HR := hide ((show RowG _ _ _ _ from unhide HR).keep bd)
  replace HY := hide ((show Blk _ _ _ _ from unhide HY).keep bd)
  refine wp_region_held_drew (S := fun W => Blk W w.heap.size #[.int .i64 s, .int .i64 e, .slice a n cap] 32 ∧ Below w.heap.size w W) (by kernel_rfl) ⟨(show Blk _ _ _ _ from unhide HX).keep bd, below_via (unhide HB) bd⟩ (fun hS => ?_)
  generalize hV : W0.drew = V0 at *
  clear hV bd HX HB W0
  refine anyH_at (i := 0) (v := .pointer (some ⟨w.heap.size, 0, none⟩)) 3 rfl (by kernel_rfl) (by kernel_rfl) (by kernel_rfl) (by kernel_rfl) (fun _ _ _ h => h) (Or.inl ⟨by kernel_rfl, fun W hS => by go_simp⟩) hS ?_
  try simp only [Act.put, List.setIfInBounds_toArray, List.set_cons_zero, List.set_cons_succ]
  refine anyH_at (i := 1) (v := .int .i64 s) 4 rfl (by kernel_rfl) (by kernel_rfl) (by kernel_rfl) (by kernel_rfl) (fun _ _ _ h => h) (Or.inl ⟨by kernel_rfl, fun W hS => by have f1 := hS.1.at 0 (.int .i64 s) rfl; go_simp⟩) hS ?_
  try simp only [Act.put, List.setIfInBounds_toArray, List.set_cons_zero, List.set_cons_succ]
  refine anyH_at (i := 2) (v := .pointer (some ⟨w.heap.size, 1, none⟩)) 5 rfl (by kernel_rfl) (by kernel_rfl) (by kernel_rfl) (by kernel_rfl) (fun _ _ _ h => h) (Or.inl ⟨by kernel_rfl, fun W hS => by go_simp⟩) hS ?_
  try simp only [Act.put, List.setIfInBounds_toArray, List.set_cons_zero, List.set_cons_succ]
  refine anyH_at (i := 3) (v := .int .i64 e) 6 rfl (by kernel_rfl) (by kernel_rfl) (by kernel_rfl) (by kernel_rfl) (fun _ _ _ h => h) (Or.inl ⟨by kernel_rfl, fun W hS => by have f1 := hS.1.at 1 (.int .i64 e) rfl; go_simp⟩) hS ?_
  try simp only [Act.put, List.setIfInBounds_toArray, List.set_cons_zero, List.set_cons_succ]
  refine anyH_at (i := 4) (v := .pointer (some ⟨w.heap.size, 2, none⟩)) 7 rfl (by kernel_rfl) (by kernel_rfl) (by kernel_rfl) (by kernel_rfl) (fun _ _ _ h => h) (Or.inl ⟨by kernel_rfl, fun W hS => by go_simp⟩) hS ?_
  try simp only [Act.put, List.setIfInBounds_toArray, List.set_cons_zero, List.set_cons_succ]
  refine anyH_at (i := 5) (v := .slice a n cap) 8 rfl (by kernel_rfl) (by kernel_rfl) (by kernel_rfl) (by kernel_rfl) (fun _ _ _ h => h) (Or.inl ⟨by kernel_rfl, fun W hS => by have f1 := hS.1.at 2 (.slice a n cap) rfl; go_simp⟩) hS ?_
  try simp only [Act.put, List.setIfInBounds_toArray, List.set_cons_zero, List.set_cons_succ]
  refine wpAnyH_all (rs := [6]) (by kernel_rfl) (by simp) (AllReadyH.cons (i := 6) rfl (fun KK hK => ?_) AllReadyH.nil)
  rw [if_pos (by kernel_rfl)]
  have hQ := hide (unhide HQ V0 (unhide HR))
  have hS0 := hide hS
  clear hS HR HQ
  go_wp2_with fail
  refine (unhide hQ).mono ?_
  rintro r V1 ⟨u, rfl, hg⟩
  have hS1 := hide (show Blk V1 w.heap.size #[.int .i64 s, .int .i64 e, .slice a n cap] 32 ∧ Below w.heap.size w V1 from ⟨(unhide hS0).1.keep hg.below, below_via (unhide hS0).2 hg.below⟩)
  have HN := hide (hg.own (show Blk _ _ _ _ from unhide HY).lt)
  replace HY := hide ((show Blk _ _ _ _ from unhide HY).keep hg.below)
  have HG := hide (hg.from (unhide hS0).2)
  obtain ⟨x, nx, cx, rfl⟩ : ∃ x nx cx, u = .slice x nx cx := by
    obtain ⟨x, cx, e1⟩ := rowG_slice hg.row
    exact ⟨x, _, cx, e1⟩
  clear hg hQ hS0
  go_wp2_with fail
  refine hK.out _ _ (unhide hS1) (fun hS => ?_)
  clear hK hS1
  try simp only [Act.put, List.setIfInBounds_toArray, List.set_cons_zero, List.set_cons_succ]
  refine anyH_at (i := 7) (v := .agg #[.int .i64 s, .int .i64 e, .slice x nx cx]) 10 rfl (by kernel_rfl) (by kernel_rfl) (by kernel_rfl) (by kernel_rfl) (fun _ _ _ h => h) (Or.inl ⟨by kernel_rfl, fun W hS => by have f1 := bd24 s e x nx cx W; go_simp⟩) hS ?_
  try simp only [Act.put, List.setIfInBounds_toArray, List.set_cons_zero, List.set_cons_succ]
  refine wpAnyH_all (rs := [8]) (by kernel_rfl) (by simp) (AllReadyH.cons (i := 8) rfl (fun KK hK => ?_) AllReadyH.nil)
  rw [if_pos (by kernel_rfl)]
  refine storeO_blk 24 _ _ rfl (show Blk _ _ _ _ from unhide HY) rfl rfl size24 rfl rfl rfl ?_
  intro V2 k2 kp
  have hS1 := hide (show Blk V2 w.heap.size #[.int .i64 s, .int .i64 e, .slice a n cap] 32 ∧ Below w.heap.size w V2 from ⟨kp.blk (Nat.ne_of_lt (Nat.lt_succ_self _)) hS.1, kp.bel (Nat.le_succ _) hS.2⟩)
  replace HG := hide (growG_past (show GrowG _ _ _ _ _ _ from unhide HG) kp (unhide HN) (unhide hS1).2)
  clear kp hS HY HN
  refine hK.out _ _ (unhide hS1) (fun hS => ?_)
  clear hK hS1
  refine wpAnyH_done (by kernel_rfl) ?_ _
  clear hS
  go_wp2_with fail
  exact bodyPost_ret (v := .agg #[.int .i64 s, .int .i64 e, .slice x nx cx]) (res_c (cs0 := #[.int .i64 s, .int .i64 e, .slice x nx cx]) rfl k2 row24 size24 rfl rfl) rfl ⟨_, rfl, unhide HG⟩
theorem below_drewN {B : Nat} {w wr : World} (h : Below B w wr) (n : Nat) : Below B w (wr.drewN n) := h.trans ⟨rfl, rfl, rfl, Nat.le_refl _, fun _ _ => rfl⟩
def eqBt (s e : Int) (l : List Li) (s' e' : Int) (l' : List Li) : Bool := decide (s = s' ∧ e = e' ∧ l = l')
theorem eqBt_no {s e s' e' : Int} {l l' : List Li} (h : ¬ (s = s' ∧ e = e' ∧ l = l')) : eqBt s e l s' e' l' = false := decide_eq_false h
theorem eqBt_l (s e : Int) (l l' : List Li) : eqBt s e l s e l' = sameL l l' := by simp [eqBt, sameL]
set_option maxHeartbeats 1000000 in
theorem eqb_any (s e s' e' : Int) (v v' : Value) (l l' : List Li) (w : World) (h : RowG 2 w v (l.map liL)) (h' : RowG 2 w v' (l'.map liL)) : Calls Try.prog 20 #[.agg #[.int .i64 s, .int .i64 e, v], .agg #[.int .i64 s', .int .i64 e', v']] w fun r w' => r = .returned (.bool (eqBt s e l s' e' l')) ∧ Below w.heap.size w w' := by
  obtain ⟨a, cap, rfl⟩ := rowG_slice h
  obtain ⟨a', cap', rfl⟩ := rowG_slice h'
  by_cases hs : s = s'
  case neg =>
    · have HE := hide (eqBt_no (s := s) (e := e) (l := l) (s' := s') (e' := e') (l' := l') (fun q => hs q.1))
      generalize (l.map liL).length = n at *
      generalize (l'.map liL).length = n' at *
      clear h h'
      go_enter Try.func20, Try.ntmps20
      go_wp2_with fail
      go_ret
      exact ⟨by rw [unhide HE]; rfl, below_via (below1 _ _) (below1 _ _)⟩
  by_cases he : e = e'
  case neg =>
    · have HE := hide (eqBt_no (s := s) (e := e) (l := l) (s' := s') (e' := e') (l' := l') (fun q => he q.2.1))
      generalize (l.map liL).length = n at *
      generalize (l'.map liL).length = n' at *
      clear h h'
      go_enter Try.func20, Try.ntmps20
      go_wp2_with fail
      go_ret
      exact ⟨by rw [unhide HE]; rfl, below_via (below1 _ _) (below1 _ _)⟩
  subst hs he
  have HE := hide (eqBt_l s e l l')
  have HQ := hide (fun W h1 h2 => same_any (.slice a (l.map liL).length cap) (.slice a' (l'.map liL).length cap') l l' W h1 h2)
  have H1 := hide ((h.alloc (.cells #[.int .i64 s, .int .i64 e, .slice a (l.map liL).length cap] 24)).alloc (.cells #[.int .i64 s, .int .i64 e, .slice a' (l'.map liL).length cap'] 24))
  have H2 := hide ((h'.alloc (.cells #[.int .i64 s, .int .i64 e, .slice a (l.map liL).length cap] 24)).alloc (.cells #[.int .i64 s, .int .i64 e, .slice a' (l'.map liL).length cap'] 24))
  have HB := hide (below_via (below1 w (.cells #[.int .i64 s, .int .i64 e, .slice a (l.map liL).length cap] 24)) (below1 _ (.cells #[.int .i64 s, .int .i64 e, .slice a' (l'.map liL).length cap'] 24)))
  clear h h'
  generalize (l.map liL).length = n at *
  generalize (l'.map liL).length = n' at *
  go_enter Try.func20, Try.ntmps20
  go_wp2_with fail
  refine (unhide HQ _ (unhide H1) (unhide H2)).mono ?_
  rintro r w2 ⟨rfl, dn, rfl⟩
  replace HB := hide (below_drewN (unhide HB) dn)
  clear HQ H1 H2
  go_wp2_with fail
  go_ret
  exact ⟨by rw [unhide HE]; rfl, unhide HB⟩
end Go.Proofs.Ytfahgphkceilkaa
