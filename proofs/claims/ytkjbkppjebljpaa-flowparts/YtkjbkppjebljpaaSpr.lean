/- What the program's Spread answers. -/
import Derived.Test.YtkjbkppjebljpaaSNum
import Derived.Test.YtkjbkppjebljpaaTot
import Derived.Test.YtkjbkppjebljpaaFn
import Derived.Deep.QuietTactic
import Derived.BigQuiet
namespace Go.Proofs.Ytkjbkppjebljpaa
open Go.RowKit
set_option linter.unusedSimpArgs false
def SAns (w : World) (l : List (Int × Int)) (ds : List Int) (e : Ending) (w' : World) : Prop := ∃ x en r, e = .returned (.tuple #[x, .int .i64 en]) ∧ Row w' x r ∧ SRes l ds en r ∧ Below w.heap.size w w'
theorem sans_no {w w' : World} {l : List (Int × Int)} {ds : List Int} {en : Int} (h : SRes l ds en []) (hb : Below w.heap.size w w') : SAns w l ds (.returned (.tuple #[.slice none 0 0, .int .i64 en])) w' := ⟨_, _, _, rfl, Or.inl ⟨none, 0, rfl, rfl⟩, h, hb⟩
structure Days (l : List (Int × Int)) (ds : List Int) : Prop where
  rl : Rises 0 l
  ml : ∀ f ∈ l, f.1 ≤ 3652059 ∧ may f.2 = true
  ll : l.length ≤ 600
  rd : RisesD 0 ds
  md : ∀ d ∈ ds, d ≤ 3652059
  ld : ds.length ≤ 600
/-- The sums on the way: k flows are laid, the days ahead of the A-th one lie ahead of all others. -/
structure SW (w w2 wr : World) (P : Nat) (l : List (Int × Int)) (ds : List Int) (k A : Nat) : Prop where
  own : Own w2 wr P ds.length (fun j => within (lo ds j) (dAt ds j) (l.take k))
  below : Below w.heap.size w w2
  P : w2.heap.size = P
  ahead : ∀ j, j < A → ∀ i, k ≤ i → i < l.length → dAt ds j < (getF l i).1
  done : ∀ f ∈ l.take k, f.1 ≤ lastD 0 ds
theorem SW.all {w w2 wr : World} {P : Nat} {l : List (Int × Int)} {ds : List Int} {k A : Nat} (h : SW w w2 wr P l ds k A) : Below w.heap.size w wr := by
  have h1 := h.own.below
  rw [← h.P] at h1
  exact below_via h.below h1
theorem Rises.at {l : List (Int × Int)} {a : Int} (h : Rises a l) : ∀ i j, i < j → j < l.length → (getF l i).1 < (getF l j).1 := by
  induction l generalizing a with
  | nil => intro i j _ hj; cases hj
  | cons x r ih =>
    intro i j hij hj
    cases j with
    | zero => cases hij
    | succ j =>
      have hj' : j < r.length := by simpa using hj
      have e : getF (x :: r) (j + 1) = getF r j := by simp [getF]
      rw [e]
      cases i with
      | zero =>
        have e2 : getF r j = r[j] := by simp [getF, List.getD, hj']
        show x.1 < _
        rw [e2]
        exact h.2.all _ (List.getElem_mem hj')
      | succ i =>
        have e3 : getF (x :: r) (i + 1) = getF r i := by simp [getF]
        rw [e3]
        exact ih h.2 i j (by omega) hj'
theorem getF_mem {l : List (Int × Int)} {k : Nat} (h : k < l.length) : getF l k ∈ l := by
  have : getF l k = l[k] := by simp [getF, List.getD, h]
  rw [this]; exact List.getElem_mem h
/-- A flow finds its place. -/
theorem SW.put {w w2 wr wr' : World} {P : Nat} {l : List (Int × Int)} {ds : List Int} {k A A0 : Nat} {d x : Int} (T : Days l ds) (h : SW w w2 wr P l ds k A0) (hk : k < l.length) (hA : A < ds.length) (he : getF l k = (d, x)) (h1 : ∀ j, j < A → dAt ds j < d) (h2 : d ≤ dAt ds A)
    (ho : Own w2 wr' P ds.length (fun j => if j = A then within (lo ds A) (dAt ds A) (l.take k) + x else within (lo ds j) (dAt ds j) (l.take k))) : SW w w2 wr' P l ds (k + 1) A := by
  have hm : (d, x) ∈ l := by rw [← he]; exact getF_mem hk
  have hlo : lo ds A < d := by
    unfold lo
    by_cases c : A = 0
    · rw [if_pos c]; exact T.rl.all _ hm
    · rw [if_neg c]; exact h1 _ (by omega)
  refine ⟨ho.as (fun j hj => ?_), h.below, h.P, fun j hj i h3 h4 => ?_, fun f hf => ?_⟩
  · rw [← take_getF hk, he]
    exact within_place (f := (d, x)) T.rd hA hlo h2 j hj
  · have := h1 j hj
    have := T.rl.at k i (by omega) h4
    rw [he] at this
    simp only at this
    omega
  · rw [← take_getF hk, he] at hf
    rcases List.mem_append.1 hf with q | q
    · exact h.done f q
    · simp at q; subst q
      have := lastD_ge T.rd A hA
      show d ≤ _
      omega
theorem SW.keep {w w2 wr wr' : World} {P : Nat} {l : List (Int × Int)} {ds : List Int} {k A : Nat} (h : SW w w2 wr P l ds k A) (hb : Below wr.heap.size wr wr') : SW w w2 wr' P l ds k A := ⟨h.own.keep hb, h.below, h.P, h.ahead, h.done⟩
/-- A flow behind all days. -/
theorem sres_arg {l : List (Int × Int)} {ds : List Int} {k : Nat} {d x : Int} (T : Days l ds) (hk : k < l.length) (he : getF l k = (d, x)) (h1 : ∀ j, j < ds.length → dAt ds j < d) : SRes l ds 2 [] := by
  have hm : (d, x) ∈ l := by rw [← he]; exact getF_mem hk
  refine Or.inl ⟨⟨(d, x), hm, ?_⟩, rfl, rfl⟩
  by_cases c : ds.length = 0
  · have : ds = [] := List.eq_nil_of_length_eq_zero c
    subst this
    exact T.rl.all _ hm
  · rw [lastD_at (by omega)]
    exact h1 _ (by omega)
set_option maxRecDepth 20000 in
set_option maxHeartbeats 4000000 in
theorem spread_core (v u : Value) (l : List (Int × Int)) (ds : List Int) (w : World) (ha : RowF w v l) (hb : Row w u ds) (T : Days l ds) (hca : Hid (Calls Try.prog 18 #[v] w fun e w' => e = .returned (.int .i64 0) ∧ Below w.heap.size w w')) (hcb : Hid (∀ w, Row w u ds → Calls Try.prog 36 #[u] w fun e w' => e = .returned (.int .i64 0) ∧ w = w')) :
    Calls Try.prog 20 #[v, u] w fun e w' => SAns w l ds e w' := by
  obtain ⟨av, ac, ea⟩ := rowF_slice ha
  obtain ⟨bv, bc, eb⟩ := row_slice hb
  subst ea eb
  have HA := hide ha
  have HB := hide hb
  have HT := hide T
  have hll := T.ll
  have hld := T.ld
  clear ha hb T
  have hmk := run_make_row' (P := Try.prog) 47 2 (.int .i64 0) 8 Try.underlying47 Try.info2 rfl .i64 .i64 ds.length (by omega) (by omega)
  go_enter Try.func20, Try.ntmps20
  go_wp2_with fail
  refine (unhide hca).mono ?_
  rintro e w1 ⟨rfl, hb1⟩
  replace HA := hide ((unhide HA).keep hb1)
  replace HB := hide ((unhide HB).below hb1 (Nat.le_refl _))
  replace hb1 := hide hb1
  go_wp2_with fail
  refine (unhide hcb _ (unhide HB)).mono ?_
  rintro e w2 ⟨rfl, rfl⟩
  go_wp2_with fail
  clear hmk hca hcb
  have HS : Hid (SW w w1 (w1.alloc (.cells (madeCells #[.int .i64 0] ds.length) 2)) w1.heap.size l ds 0 0) := hide ⟨⟨(Below.refl _ _).alloc (Nat.le_refl _) _, (World.rowIs_made w1 _ ds.length 2).congr (fun j _ => by simp [within])⟩, unhide hb1, rfl, fun j hj => absurd hj (Nat.not_lt_zero j), fun f hf => (by cases hf)⟩
  obtain ⟨P, eP⟩ : ∃ P, P = w1.heap.size := ⟨_, rfl⟩
  rw [← eP] at HS
  rw [← eP]
  clear eP hb1
  go_loopw [9, 29] (fun a i wr => ∃ k A : Nat, k ≤ l.length ∧ A ≤ ds.length ∧ a = .int .i64 A ∧ i = .int .i64 k ∧ Hid (SW w w1 wr P l ds k A)) (fun _ i _ => l.length - (intOf i).toNat)
  case atStart => exact ⟨0, 0, Nat.zero_le _, Nat.zero_le _, rfl, rfl, HS⟩
  case round =>
    clear HS
    obtain ⟨k, A0, hk, hA0, rfl, rfl, HS⟩ := hrel
    by_cases hlt : k < l.length
    · rcases unhide HA with ⟨_, _, _, h, _⟩ | ⟨bb, oo, cc, h1, _, h3, h4, h5, h6⟩
      · rw [h] at hlt; cases hlt
      cases h1
      have hb9 : Below w1.heap.size w1 wr := by have := (unhide HS).own.below; rwa [← (unhide HS).P] at this
      obtain ⟨c0, c1⟩ := (show CellsF w1 bb oo l from h5).keep hb9 k hlt
      have HD := hide ((unhide HB).below hb9 (Nat.le_refl _))
      obtain ⟨f', he⟩ : ∃ f', getF l k = f' := ⟨_, rfl⟩
      have HE := hide he
      have HAh : Hid (∀ j, j < A0 → dAt ds j < f'.1) := hide (fun j hj => by rw [← he]; exact (unhide HS).ahead j hj k (Nat.le_refl _) hlt)
      rw [he] at c0 c1
      clear he h3 h4 h5 h6 hb9
      obtain ⟨d, x⟩ := f'
      replace HAh : Hid (∀ j, j < A0 → dAt ds j < d) := HAh
      replace c0 : wr.cell? ⟨bb, oo + k * 2, none⟩ = some (.int .i64 d) := c0
      replace c1 : wr.cell? ⟨bb, oo + k * 2 + 1, none⟩ = some (.int .i64 x) := c1
      have HPB := hide (unhide HS).own.row.lt
      have HR := hide (R2.new wr d x)
      have hBb := hide ((Below.refl wr.heap.size wr).alloc (Nat.le_refl _) (.cells #[.int .i64 d, .int .i64 x] 39))
      replace HS := hide ((unhide HS).keep (unhide hBb))
      replace HD := hide ((unhide HD).alloc (.cells #[.int .i64 d, .int .i64 x] 39))
      go_wp2_with fail
      obtain ⟨B, eB⟩ : ∃ B, B = wr.heap.size := ⟨_, rfl⟩
      rw [← eB] at HR HPB
      rw [← eB]
      generalize wr.alloc (.cells #[.int .i64 d, .int .i64 x] 39) = W1 at *
      clear c0 c1 eB
      go_loopw [9] (fun a wq => ∃ A n : Nat, A ≤ ds.length ∧ a = .int .i64 A ∧ wq = W1.drewN n ∧ Hid (∀ j, j < A → dAt ds j < d)) (fun a _ => ds.length - (intOf a).toNat)
      case atStart => exact ⟨A0, 0, hA0, rfl, rfl, HAh⟩
      case round =>
        clear HAh
        obtain ⟨A, n, hA, rfl, rfl, HAh⟩ := hrel
        have x0 := (unhide HR).c0
        have x1 := (unhide HR).c1
        by_cases hAl : A < ds.length
        · have q1 : decide ((A : Int) < (ds.length : Int)) = true := decide_eq_true (by omega)
          have q5 : ((A : Int) == (ds.length : Int)) = false := by rw [beq_eq_false_iff_ne]; omega
          rcases unhide HD with ⟨_, _, _, h⟩ | ⟨b2, o2, cc2, h1, _, h4, h5, h6⟩
          · rw [h] at hAl; cases hAl
          cases h1
          have c2 : W1.cell? ⟨b2, o2 + A, none⟩ = some (.int .i64 (dAt ds A)) := h5 A hAl
          clear h4 h5 h6
          obtain ⟨y, ey⟩ : ∃ y, y = dAt ds A := ⟨_, rfl⟩
          have HY := hide ey
          rw [← ey] at c2
          clear ey
          have hAi : (A : Int) < (ds.length : Int) := by omega
          by_cases q : y < d
          · have q2 := decide_eq_true q
            have HN : Hid (∀ j, j < A + 1 → dAt ds j < d) := hide (fun j hj => by
              by_cases e : j = A
              · rw [e, ← unhide HY]; exact q
              · exact unhide HAh j (by omega))
            go_wp2_with fail
            go_quiet (fail)
            go_wp2
            go_roundw
            case rel => exact ⟨A + 1, n + nq, by omega, by go_num, rfl, HN⟩
            case measure => simp [intOf]; omega
          · have q2 := decide_eq_false q
            have HO := hide (unhide HS).own
            have p0 := (unhide HO).row.cell hAl
            have p1 := (unhide HO).row.frozen A
            have HPut : Hid (∀ wr', Own w1 wr' P ds.length (fun j => if j = A then within (lo ds A) (dAt ds A) (l.take k) + x else within (lo ds j) (dAt ds j) (l.take k)) → SW w w1 wr' P l ds (k + 1) A) := hide (fun wr' ho => (unhide HS).put (unhide HT) hlt hAl (unhide HE) (unhide HAh) (by rw [← unhide HY]; omega) ho)
            have bd := within_bd (l := l.take k) (lo ds A) (dAt ds A) (fun f hf => ((unhide HT).ml f (List.mem_of_mem_take hf)).2)
            have bl : (l.take k).length ≤ 600 := by rw [List.length_take]; omega
            have bx := may_bd ((unhide HT).ml _ (getF_mem hlt)).2
            rw [unhide HE] at bx
            simp only at bx
            replace HO : Hid (∀ z, z = within (lo ds A) (dAt ds A) (l.take k) → ∀ m, Own w1 ((W1.drewN m).setCell ⟨P, A, none⟩ (.int .i64 (z + x))) P ds.length (fun j => if j = A then within (lo ds A) (dAt ds A) (l.take k) + x else within (lo ds j) (dAt ds j) (l.take k))) := hide (fun z hz m => by rw [hz]; exact ((unhide HO).drewN m).put A _ (fun j => rfl))
            generalize hz : within (lo ds A) (dAt ds A) (l.take k) = z at *
            replace HO := hide (unhide HO z rfl)
            have z1 : -6000000000000000 ≤ z := by omega
            have z2 : z ≤ 6000000000000000 := by omega
            clear bd bl
            have hPB : ¬ P = B := by have := unhide HPB; omega
            go_wp2_with fail
            go_quiet (fail)
            go_wp2
            go_region
            all_goals (try go_wp2)
            go_roundw
            case rel => exact ⟨k + 1, A, by omega, by omega, rfl, by go_num, hide (unhide HPut _ (unhide HO _))⟩
            case measure => simp [intOf]; omega
        · obtain rfl : A = ds.length := by omega
          have q1 : decide ((ds.length : Int) < (ds.length : Int)) = false := decide_eq_false (by omega)
          have q5 : ((ds.length : Int) == (ds.length : Int)) = true := by simp
          have HM := hide (sres_arg (unhide HT) hlt (unhide HE) (unhide HAh))
          have HBl := hide (below_drewN (unhide HS).all)
          go_wp2_with fail
          go_quiet (fail)
          go_wp2
          go_ret2
          exact sans_no (unhide HM) (unhide HBl _)
    · obtain rfl : k = l.length := by omega
      have HO : Hid (Own w1 wr P ds.length (fun j => within (lo ds j) (dAt ds j) l)) := hide (by have := (unhide HS).own; rwa [List.take_length] at this)
      have HD2 : Hid (∀ f ∈ l, f.1 ≤ lastD 0 ds) := hide (by have := (unhide HS).done; rwa [List.take_length] at this)
      have HBl := hide (unhide HS).all
      have HX : Hid (∀ j, In64 (within (lo ds j) (dAt ds j) l)) := hide (fun j => by
        have := within_bd (lo ds j) (dAt ds j) (fun f hf => ((unhide HT).ml f hf).2)
        exact ⟨by omega, by omega⟩)
      have HSp := hide (spr_lo l ds)
      have HV : Hid (∀ j, j < ds.length → may (within (lo ds j) (dAt ds j) l) = false → SRes l ds 3 []) := hide (fun j hj h => Or.inr (Or.inl ⟨unhide HD2, ⟨j, hj, h⟩, rfl, rfl⟩))
      have HW : Hid ((∀ j, j < ds.length → may (within (lo ds j) (dAt ds j) l) = true) → SRes l ds 0 (spr 0 l ds)) := hide (fun h => Or.inr (Or.inr ⟨unhide HD2, h, rfl, rfl⟩))
      clear HS HA HB HT
      generalize hfn : (fun j => within (lo ds j) (dAt ds j) l) = g at *
      have e9 : ∀ j, within (lo ds j) (dAt ds j) l = g j := fun j => by rw [← hfn]
      replace HX : Hid (∀ j, In64 (g j)) := hide (fun j => by rw [← e9]; exact unhide HX j)
      replace HV : Hid (∀ j, j < ds.length → may (g j) = false → SRes l ds 3 []) := hide (fun j hj h => unhide HV j hj (by rw [e9]; exact h))
      replace HW : Hid ((∀ j, j < ds.length → may (g j) = true) → SRes l ds 0 (spr 0 l ds)) := hide (fun h => unhide HW (fun j hj => by rw [e9]; exact h j hj))
      clear e9 hfn
      go_wp2_with fail
      go_loop [63] (fun i => ∃ k : Nat, k ≤ ds.length ∧ i = .int .i64 k ∧ Hid (∀ j, j < k → may (g j) = true)) (fun i => ds.length - (intOf i).toNat)
      case atStart => exact ⟨0, Nat.zero_le _, rfl, hide (fun j hj => absurd hj (Nat.not_lt_zero j))⟩
      case round =>
        obtain ⟨k, hk, rfl, HK⟩ := hrel
        by_cases hlt : k < ds.length
        · have p0 := (unhide HO).row.cell hlt
          have HN : Hid (may (g k) = true → ∀ j, j < k + 1 → may (g j) = true) := hide (fun h j hj => by
            by_cases e : j = k
            · rw [e]; exact h
            · exact unhide HK j (by omega))
          have HV2 := hide (unhide HV k hlt)
          generalize g k = z at *
          cases hy : may z with
          | true =>
            have HY := hide hy
            replace HN := hide (unhide HN hy)
            clear hy HV2
            go_wp2_with fail
            refine (may_of (unhide HY) _).mono ?_
            rintro e w5 ⟨rfl, rfl⟩
            go_wp2_with fail
            go_round
            case rel => exact ⟨k + 1, by omega, by go_num, HN⟩
            case measure => simp [intOf]; omega
          | false =>
            have HY := hide hy
            replace HV2 := hide (unhide HV2 hy)
            clear hy HN
            go_wp2_with fail
            refine (may_of (unhide HY) _).mono ?_
            rintro e w5 ⟨rfl, rfl⟩
            go_wp2_with fail
            go_ret2
            exact sans_no (unhide HV2) (unhide HBl)
        · obtain rfl : k = ds.length := by omega
          replace HW := hide (unhide HW (unhide HK))
          have HR := hide ((unhide HO).asRow (cap := ds.length) (by unfold maxLen; omega) (unhide HX))
          rw [← unhide HSp] at HR
          go_wp2_with fail
          go_ret2
          exact ⟨_, _, _, rfl, unhide HR, unhide HW, unhide HBl⟩
theorem spread_a (v u : Value) (c : Int) (w : World) (hc : (c != 0) = true) (hca : Hid (Calls Try.prog 18 #[v] w fun e w' => e = .returned (.int .i64 c) ∧ Below w.heap.size w w')) : Calls Try.prog 20 #[v, u] w fun e w' => e = .returned (.tuple #[.slice none 0 0, .int .i64 c]) ∧ Below w.heap.size w w' := by
  go_enter Try.func20, Try.ntmps20
  go_wp2_with fail
  refine (unhide hca).mono ?_
  rintro e w1 ⟨rfl, hb1⟩
  replace hb1 := hide hb1
  go_wp2_with fail
  go_ret2
  exact ⟨rfl, unhide hb1⟩
theorem spread_b (v u : Value) (c : Int) (w : World) (hc : (c != 0) = true) (hca : Hid (Calls Try.prog 18 #[v] w fun e w' => e = .returned (.int .i64 0) ∧ Below w.heap.size w w')) (hcb : Hid (∀ w' : World, Below w.heap.size w w' → Calls Try.prog 36 #[u] w' fun e w'' => e = .returned (.int .i64 c) ∧ w' = w'')) : Calls Try.prog 20 #[v, u] w fun e w' => e = .returned (.tuple #[.slice none 0 0, .int .i64 c]) ∧ Below w.heap.size w w' := by
  go_enter Try.func20, Try.ntmps20
  go_wp2_with fail
  refine (unhide hca).mono ?_
  rintro e w1 ⟨rfl, hb1⟩
  have hcb2 := hide (unhide hcb w1 hb1)
  replace hb1 := hide hb1
  clear hcb
  go_wp2_with fail
  refine (unhide hcb2).mono ?_
  rintro e w2 ⟨rfl, rfl⟩
  go_wp2_with fail
  go_ret2
  exact ⟨rfl, unhide hb1⟩
theorem dayE_ok {ds : List Int} (h : dayE ds = 0) : ds.length ≤ 600 ∧ chkD 0 ds = 0 := by
  unfold dayE at h
  split at h
  · cases h
  · exact ⟨by omega, h⟩
theorem days_of {l : List (Int × Int)} {ds : List Int} (h1 : chkE l = 0) (h2 : dayE ds = 0) : Days l ds := by
  obtain ⟨a1, a2⟩ := chkE_ok h1
  obtain ⟨b1, b2⟩ := dayE_ok h2
  obtain ⟨c1, c2⟩ := chk_ok a2
  obtain ⟨d1, d2⟩ := chkD_ok b2
  exact ⟨c1, c2, a1, d1, d2, b1⟩
/-- What Spread answers. -/
def SpreadA (f : Nat) (v u : Value) (l : List (Int × Int)) (ds : List Int) (w : World) : Prop := Calls Try.prog f #[v, u] w fun e w' => ∃ x, e = .returned (.tuple #[x, .int .i64 (sE l ds)]) ∧ Row w' x (sL l ds) ∧ Below w.heap.size w w'
theorem spread_all (v u : Value) (l : List (Int × Int)) (ds : List Int) (w : World) (ha : RowF w v l) (hb : Row w u ds) : SpreadA 20 v u l ds w := by
  by_cases h1 : chkE l = 0
  · by_cases h2 : dayE ds = 0
    · refine (spread_core v u l ds w ha hb (days_of h1 h2) (hide (by have := check_any v l w ha; rwa [h1] at this)) (hide fun w h => by have := days_any u ds w h; rwa [h2] at this)).mono ?_
      rintro e w' ⟨x, en, r, rfl, hr, hm, hbl⟩
      obtain ⟨rfl, rfl⟩ := hm.same h1 h2
      exact ⟨x, rfl, hr, hbl⟩
    · refine (spread_b v u (dayE ds) w (by simpa using h2) (hide (by have := check_any v l w ha; rwa [h1] at this)) (hide fun w' hbl => days_any u ds w' (hb.below hbl (Nat.le_refl _)))).mono ?_
      rintro e w' ⟨rfl, hbl⟩
      rw [(sE_d h1 h2).1, (sE_d h1 h2).2]
      exact ⟨_, rfl, Or.inl ⟨none, 0, rfl, rfl⟩, hbl⟩
  · refine (spread_a v u (chkE l) w (by simpa using h1) (hide (check_any v l w ha))).mono ?_
    rintro e w' ⟨rfl, hbl⟩
    rw [(sE_l h1).1, (sE_l h1).2]
    exact ⟨_, rfl, Or.inl ⟨none, 0, rfl, rfl⟩, hbl⟩
end Go.Proofs.Ytkjbkppjebljpaa
