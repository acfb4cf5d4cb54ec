/- What merge makes of two rows of flows. -/
import Derived.Test.YtkjbkppjebljpaaDel
import Derived.Deep.RegionHeld3
import Derived.Deep.CutRange
import Derived.Deep.Cut
namespace Go.Proofs.Ytkjbkppjebljpaa
open Go.RowKit
set_option linter.unusedSimpArgs false
theorem RowF.tail {w : World} {b off cap : Nat} {x : Int × Int} {l : List (Int × Int)} (h : RowF w (.slice (some ⟨b, off, none⟩) (x :: l).length cap) (x :: l)) : RowF w (.slice (if cap = 1 then some ⟨b, off, none⟩ else some ⟨b, off + 2, none⟩) l.length (cap - 1)) l := by
  rcases h with ⟨_, _, _, h, _⟩ | ⟨b', off', cap', h1, h2, h3, h4, h5, h6⟩
  · cases h
  · cases h1
    by_cases h0 : l.length = 0
    · have e : l = [] := List.eq_nil_of_length_eq_zero h0
      subst e
      refine Or.inl ⟨_, _, rfl, rfl, fun c => ?_⟩
      by_cases q : cap = 1
      · rw [if_pos q] at c; cases c
      · rw [if_neg q] at c; cases c
    · have : l.length + 1 ≤ cap := h3
      rw [if_neg (by omega)]
      refine Or.inr ⟨b, off + 2, cap - 1, rfl, by omega, by omega, by omega, fun j hj => ?_, fun f hf => h6 f (List.mem_cons_of_mem _ hf)⟩
      have := h5 (j + 1) (by simp; omega)
      rw [List.getD_cons_succ, show off + (j + 1) * 2 = off + 2 + j * 2 from by omega] at this
      exact this
def lenV : Value → Nat
  | .slice _ n _ => n
  | _ => 0
structure MW (w wr : World) (v : Value) (dn a b r : List (Int × Int)) : Prop where
  grow : GrowF 39 w wr v dn
  all : dn ++ mrg a b = r
  len : dn.length + a.length + b.length ≤ 10000
  mayA : ∀ f ∈ a, may f.2 = true
  mayB : ∀ f ∈ b, may f.2 = true
theorem two_new (wr : World) (p0 p1 q0 q1 : Int) : Below wr.heap.size wr ((wr.alloc (.cells #[.int .i64 p0, .int .i64 p1] 39)).alloc (.cells #[.int .i64 q0, .int .i64 q1] 39)).drew ∧ R2 ((wr.alloc (.cells #[.int .i64 p0, .int .i64 p1] 39)).alloc (.cells #[.int .i64 q0, .int .i64 q1] 39)).drew wr.heap.size p0 p1 ∧ R2 ((wr.alloc (.cells #[.int .i64 p0, .int .i64 p1] 39)).alloc (.cells #[.int .i64 q0, .int .i64 q1] 39)).drew (wr.heap.size + 1) q0 q1 := by
  refine ⟨below_drewN ((((Below.refl wr.heap.size wr).alloc (Nat.le_refl _) _).alloc (by simp) _)) 1, ?_, ?_⟩
  · have h : R2 ((wr.alloc (.cells #[.int .i64 p0, .int .i64 p1] 39)).alloc (.cells #[.int .i64 q0, .int .i64 q1] 39)) wr.heap.size p0 p1 := (R2.new wr p0 p1).keep ((Below.refl _ _).alloc (Nat.le_refl _) _)
    exact h
  · have h := R2.new (wr.alloc (.cells #[.int .i64 p0, .int .i64 p1] 39)) q0 q1
    rw [show (wr.alloc (.cells #[.int .i64 p0, .int .i64 p1] 39)).heap.size = wr.heap.size + 1 from by simp] at h
    exact h
def IX (w0 : World) (bx by_ : Nat) (x0 x1 y0 y1 : Int) (w' : World) : Prop := w'.cell? ⟨bx, 0, none⟩ = some (.int .i64 x0) ∧ w'.cell? ⟨bx, 1, none⟩ = some (.int .i64 x1) ∧ w'.cell? ⟨by_, 0, none⟩ = some (.int .i64 y0) ∧ w'.cell? ⟨by_, 1, none⟩ = some (.int .i64 y1) ∧ Hid (Below w0.heap.size w0 w' ∧ R2 w' bx x0 x1 ∧ R2 w' by_ y0 y1)
theorem IX.mk {w0 : World} {bx by_ : Nat} {x0 x1 y0 y1 : Int} {w' : World} (h : Below w0.heap.size w0 w' ∧ R2 w' bx x0 x1 ∧ R2 w' by_ y0 y1) : IX w0 bx by_ x0 x1 y0 y1 w' := ⟨h.2.1.c0, h.2.1.c1, h.2.2.c0, h.2.2.c1, hide h⟩
theorem IX.keep {w0 : World} {bx by_ : Nat} {x0 x1 y0 y1 : Int} {w' w2 : World} (h : IX w0 bx by_ x0 x1 y0 y1 w') (hb : Below w'.heap.size w' w2) : IX w0 bx by_ x0 x1 y0 y1 w2 := IX.mk ⟨below_via (unhide h.2.2.2.2).1 hb, (unhide h.2.2.2.2).2.1.keep hb, (unhide h.2.2.2.2).2.2.keep hb⟩
theorem IX.drew {w0 : World} {bx by_ : Nat} {x0 x1 y0 y1 : Int} {w' : World} (h : IX w0 bx by_ x0 x1 y0 y1 w') : IX w0 bx by_ x0 x1 y0 y1 w'.drew := IX.mk ⟨below_drewN (unhide h.2.2.2.2).1 1, (unhide h.2.2.2.2).2.1, (unhide h.2.2.2.2).2.2⟩
def IY (bx by_ : Nat) (x0 x1 y0 y1 : Int) (w' : World) : Prop := w'.cell? ⟨bx, 0, none⟩ = some (.int .i64 x0) ∧ w'.cell? ⟨bx, 1, none⟩ = some (.int .i64 x1) ∧ w'.cell? ⟨by_, 0, none⟩ = some (.int .i64 y0) ∧ w'.cell? ⟨by_, 1, none⟩ = some (.int .i64 y1) ∧ Hid (R2 w' bx x0 x1 ∧ R2 w' by_ y0 y1)
theorem IY.mk {bx by_ : Nat} {x0 x1 y0 y1 : Int} {w' : World} (h : R2 w' bx x0 x1 ∧ R2 w' by_ y0 y1) : IY bx by_ x0 x1 y0 y1 w' := ⟨h.1.c0, h.1.c1, h.2.c0, h.2.c1, hide h⟩
theorem IY.keep {bx by_ : Nat} {x0 x1 y0 y1 : Int} {w' w2 : World} (h : IY bx by_ x0 x1 y0 y1 w') (hb : Below w'.heap.size w' w2) : IY bx by_ x0 x1 y0 y1 w2 := IY.mk ⟨(unhide h.2.2.2.2).1.keep hb, (unhide h.2.2.2.2).2.keep hb⟩
theorem IY.alloc {bx by_ : Nat} {x0 x1 y0 y1 : Int} {w' : World} (h : IY bx by_ x0 x1 y0 y1 w') (o : Obj) : IY bx by_ x0 x1 y0 y1 (w'.alloc o) := h.keep ((Below.refl _ _).alloc (Nat.le_refl _) o)
theorem IY.drew {bx by_ : Nat} {x0 x1 y0 y1 : Int} {w' : World} (h : IY bx by_ x0 x1 y0 y1 w') : IY bx by_ x0 x1 y0 y1 w'.drew := IY.mk ⟨(unhide h.2.2.2.2).1, (unhide h.2.2.2.2).2⟩
theorem IY.grown {bx by_ : Nat} {x0 x1 y0 y1 : Int} {W W' : World} {v : Value} (h : IY bx by_ x0 x1 y0 y1 W) (hg : ∀ b p q, R2 W b p q → v.ownBlock ≠ some b → R2 W' b p q) (h1 : v.ownBlock ≠ some bx) (h2 : v.ownBlock ≠ some by_) : IY bx by_ x0 x1 y0 y1 W' := IY.mk ⟨hg _ _ _ (unhide h.2.2.2.2).1 h1, hg _ _ _ (unhide h.2.2.2.2).2 h2⟩
theorem MW.far {w wr : World} {v : Value} {dn a b r : List (Int × Int)} (h : MW w wr v dn a b r) {k : Nat} (hk : wr.heap.size ≤ k) : v.ownBlock ≠ some k := fun c => by have := (h.grow.at_least k c).2; omega
theorem MW.left {w wr wr' : World} {v v' : Value} {dn a b r : List (Int × Int)} {x y : Int × Int} (h : MW w wr v dn (x :: a) (y :: b) r) (hg : GrowF 39 w wr' v' (dn ++ [x])) (q : x.1 < y.1) : MW w wr' v' (dn ++ [x]) a (y :: b) r :=
  ⟨hg, by rw [← h.all, mrg_lt q, List.append_assoc]; rfl, by have := h.len; simp at this ⊢; omega, fun f hf => h.mayA f (List.mem_cons_of_mem _ hf), h.mayB⟩
theorem MW.right {w wr wr' : World} {v v' : Value} {dn a b r : List (Int × Int)} {x y : Int × Int} (h : MW w wr v dn (x :: a) (y :: b) r) (hg : GrowF 39 w wr' v' (dn ++ [y])) (q : y.1 < x.1) : MW w wr' v' (dn ++ [y]) (x :: a) b r :=
  ⟨hg, by rw [← h.all, mrg_gt q, List.append_assoc]; rfl, by have := h.len; simp at this ⊢; omega, h.mayA, fun f hf => h.mayB f (List.mem_cons_of_mem _ hf)⟩
theorem MW.both {w wr wr' : World} {v v' : Value} {dn a b r : List (Int × Int)} {x y : Int × Int} (h : MW w wr v dn (x :: a) (y :: b) r) (hg : GrowF 39 w wr' v' (dn ++ [(x.1, x.2 + y.2)])) (q : x.1 = y.1) : MW w wr' v' (dn ++ [(x.1, x.2 + y.2)]) a b r :=
  ⟨hg, by rw [← h.all, mrg_eq q, List.append_assoc]; rfl, by have := h.len; simp at this ⊢; omega, fun f hf => h.mayA f (List.mem_cons_of_mem _ hf), fun f hf => h.mayB f (List.mem_cons_of_mem _ hf)⟩
theorem GrowF.drew {E : TypeId} {w wr : World} {v : Value} {l : List (Int × Int)} (h : GrowF E w wr v l) : GrowF E w wr.drew v l := ⟨below_drewN h.below 1, h.owns, h.small⟩
/-- append of one flow, at a step of a statement that leaves its order open. -/
theorem step_pushF {ops : Array Oper} {o : Oper} {a : Act} {K : Act → World → Prop} {Q : Exit → Act → World → Prop} {X : Prop} (hgd : o.guard = none) (s x : Operand)
    (ho : o.op = .call { callee := .builtin .append, args := #[s, x], argTypes := #[24, 24] })
    (w W : World) (B : Nat) (v : Value) (l : List (Int × Int)) (f : Int × Int) (hG : GrowF 39 w W v l) (hB : R2 W B f.1 f.2) (hs : a.eval s = v) (hx : a.eval x = .slice (some ⟨B, 0, none⟩) 1 1)
    (hlen : l.length ≤ 1000000) (hf : In64 f.1 ∧ In64 f.2)
    (h : ∀ v' W', GrowF 39 w W' v' (l ++ [f]) → (∀ b p q, R2 W b p q → v.ownBlock ≠ some b → R2 W' b p q) → K (a.put o.dst v') W') :
    if Region.wanted o (yielded ops a.tmps) = true then Oper.wp Try.prog o a W K Q else X := by
  obtain ⟨i0, hi, hz0, hz1, hz2⟩ := info_parts Try.info39
  have hsize := hG.below.size
  refine step_append_lies _ hgd s x 24 ho w.heap.size 39 i0 (.agg #[.int .i64 0, .int .i64 0]) 2 16 Try.underlying24 hi hz0 hz1 hz2 rfl (by decide) v l.length _ hs hG.owns ⟨B, 0, none⟩ 1 1 [.int .i64 f.1, .int .i64 f.2] hx rfl ?_ ?_ (by decide) (by unfold maxLen; omega) (by omega) hsize W.heap.size rfl ?_
  · intro j u hj
    rw [Addr.add_lit]
    match j, hj with
    | 0, hj => simp at hj; subst hj; exact hB.c0
    | 1, hj => simp at hj; subst hj; exact hB.c1
  · intro u hu
    simp at hu
    rcases hu with rfl | rfl <;> rfl
  · intro g cap w' hown hgrow hg _
    refine h _ w' ⟨hG.below.grown hgrow hsize (fun k hk => (hG.owns.lt k hk).1), ?_, ?_⟩ (fun b p q hr hne => (hgrow.block b hr.lt (fun c => hne c.symm)).trans hr)
    · rw [flat_append]
      simpa [flat] using hown
    · intro u hu
      rcases List.mem_append.1 hu with hu | hu
      · exact hG.small u hu
      · simp at hu; subst hu; exact hf
theorem flat_one (m : List (Int × Int)) : ∀ u ∈ flat m, u.oneCell' = true := by
  induction m with
  | nil => intro u hu; cases hu
  | cons f r ih =>
    intro u hu
    rcases List.mem_cons.1 hu with rfl | hu
    · rfl
    · rcases List.mem_cons.1 hu with rfl | hu
      · rfl
      · exact ih u hu
theorem wp_fromF {o : Oper} {a : Act} {K : Act → World → Prop} {Q : Exit → Act → World → Prop} (s x : Operand)
    (ho : o.op = .call { callee := .builtin .append, args := #[s, x], argTypes := #[24, 24] })
    (w W : World) (v u : Value) (l m : List (Int × Int)) (hG : GrowF 39 w W v l) (hF : RowF W u m) (hs : a.eval s = v) (hx : a.eval x = u)
    (hlen : l.length + m.length ≤ 1000000)
    (h : ∀ v' W', GrowF 39 w W' v' (l ++ m) → K (a.put o.dst v') W') : o.wp Try.prog a W K Q := by
  obtain ⟨i0, hi, hz0, hz1, hz2⟩ := info_parts Try.info39
  have hsize := hG.below.size
  have row : ∀ (ad : Addr) (c : Nat), u = .slice (some ad) m.length c → (∀ j u, (flat m)[j]? = some u → W.cell? (ad.add j) = some u) → o.wp Try.prog a W K Q := by
    rintro ad c rfl hc
    refine wp_append_own W s x 24 ho w.heap.size 39 i0 (.agg #[.int .i64 0, .int .i64 0]) 2 16 Try.underlying24 hi hz0 hz1 hz2 rfl (by decide) v l.length _ hs hG.owns ad m.length c (flat m) hx (flat_len m) hc ?_ (by unfold maxLen; omega) (by omega) hsize ?_
    · exact flat_one m
    · intro v' W' hown hgrow _
      refine h v' W' ⟨hG.below.grown hgrow hsize (fun k hk => (hG.owns.lt k hk).1), ?_, ?_⟩
      · rw [flat_append, List.length_append]; exact hown
      · intro y hy
        rcases List.mem_append.1 hy with h1 | h1
        · exact hG.small y h1
        · exact hF.small y h1
  rcases hF with ⟨ad, c, rfl, rfl, hn⟩ | ⟨b, off, c, rfl, _, _, _, hc, _⟩
  · cases ad with
    | none =>
      rw [hn rfl] at hx
      have hrun := run_append_owned_none (P := Try.prog) W w.heap.size 24 o.type 39 i0 2 Try.underlying24 hi v l.length _ hG.owns
      unfold Oper.wp
      simp [execOp, ho, resolve, invoke, builtin, hs, hx, hrun, Result.andThen]
      have := h v W (by simpa using hG)
      exact this
    | some ad => exact row ad c rfl (fun j u hj => by simp [flat] at hj)
  · refine row _ c rfl (fun j u hj => ?_)
    have hj2 := (List.getElem?_eq_some_iff.1 hj).1
    rw [flat_len] at hj2
    rw [Addr.add_lit]
    have e := flat_at m (j / 2) (by omega)
    have g := hc (j / 2) (by omega)
    have q : j = j / 2 * 2 ∨ j = j / 2 * 2 + 1 := by omega
    rcases q with q | q
    · rw [q, e.1] at hj
      rw [show off + j = off + j / 2 * 2 from by omega, g.1, ← hj]
    · rw [q, e.2] at hj
      rw [show off + j = off + j / 2 * 2 + 1 from by omega, g.2, ← hj]
theorem listF_from {ops : Array Oper} {rest : List Oper} {o : Oper} {a : Act} {Q : Exit → Act → World → Prop} (hgd : o.guard = none) (s x : Operand)
    (ho : o.op = .call { callee := .builtin .append, args := #[s, x], argTypes := #[24, 24] })
    (w W : World) (v u : Value) (l m : List (Int × Int)) (hG : GrowF 39 w W v l) (hF : RowF W u m) (hs : a.eval s = v) (hx : a.eval x = u)
    (hlen : l.length + m.length ≤ 1000000)
    (h : ∀ v' W', GrowF 39 w W' v' (l ++ m) → wpList Try.prog ops Q rest (a.put o.dst v') W') : wpList Try.prog ops Q (o :: rest) a W :=
  wpList_plain hgd fun _ hK => wp_fromF s x ho w W v u l m hG hF hs hx hlen fun v' W' h2 => hK _ _ (h v' W' h2)
set_option maxRecDepth 20000 in
set_option maxHeartbeats 2000000 in
theorem merge_any (v u : Value) (a b : List (Int × Int)) (w : World) (ha : RowF w v a) (hb : RowF w u b) (hl : a.length + b.length ≤ 10000) (hA : ∀ f ∈ a, may f.2 = true) (hB : ∀ f ∈ b, may f.2 = true) :
    Calls Try.prog 25 #[v, u, .func (.func 26) #[] #[], .func (.func 27) #[] #[]] w fun e w' => ∃ x, e = .returned x ∧ GrowF 39 w w' x (mrg a b) := by
  obtain ⟨av, ac, ea⟩ := rowF_slice ha
  obtain ⟨bv, bc, eb⟩ := rowF_slice hb
  subst ea eb
  obtain ⟨i0, hi, hz0, hz1, hz2⟩ := info_parts Try.info39
  obtain ⟨w1, hmk, hown, hgr⟩ := run_make_own (P := Try.prog) w w.heap.size 24 39 i0 _ 2 Try.underlying24 hi hz0 hz1 .i64 .i64 (a.length + b.length) (by rw [hz2]; omega) (by unfold maxLen; omega) (Nat.le_refl _)
  rw [Int.natCast_add] at hmk
  have HM : Hid (MW w w1 (.slice (some ⟨w.heap.size, 0, none⟩) 0 (a.length + b.length)) [] a b (mrg a b)) := hide ⟨⟨(Below.refl _ _).grown hgr (Nat.le_refl _) (fun k hk => (by cases hk)), hown, fun f hf => (by cases hf)⟩, rfl, by simpa using hl, hA, hB⟩
  have HRa := hide ha
  have HRb := hide hb
  clear ha hb hown hgr hi hz0 hz1 hz2 hA hB
  generalize mrg a b = r at *
  have hla : (a.length : Int) ≤ 10000 := by omega
  have hlb : (b.length : Int) ≤ 10000 := by omega
  go_enter Try.func25, Try.ntmps25
  go_wp2_with fail
  clear hmk
  go_loopw [0, 1, 9] (fun p q o wr => ∃ a b dn, (∃ x c, p = .slice x (List.length a) c) ∧ (∃ x c, q = .slice x (List.length b) c) ∧ Hid (RowF w p a) ∧ Hid (RowF w q b) ∧ Hid (MW w wr o dn a b r)) (fun p q _ _ => lenV p + lenV q)
  case atStart => exact ⟨a, b, [], ⟨_, _, rfl⟩, ⟨_, _, rfl⟩, HRa, HRb, HM⟩
  case round =>
    clear HRa HRb HM hl hla hlb
    obtain ⟨a, b, dn, ⟨av, ac, rfl⟩, ⟨bv, bc, rfl⟩, HRa, HRb, HM⟩ := hrel
    have hl := (unhide HM).len
    by_cases qa : 0 < a.length
    · by_cases qb : 0 < b.length
      · obtain ⟨x, a, rfl⟩ : ∃ x a', a = x :: a' := by
          cases a with
          | nil => cases qa
          | cons x a => exact ⟨x, a, rfl⟩
        obtain ⟨y, b, rfl⟩ : ∃ x a', b = x :: a' := by
          cases b with
          | nil => cases qb
          | cons x a => exact ⟨x, a, rfl⟩
        rcases unhide HRa with ⟨_, _, _, h, _⟩ | ⟨ba, oa, ca, h1, _, h3, h4, h5, h6⟩
        · cases h
        cases h1
        rcases unhide HRb with ⟨_, _, _, h, _⟩ | ⟨bb, ob, cb, h1, _, g3, g4, g5, g6⟩
        · cases h
        cases h1
        have hk := (unhide HM).grow.below
        have c0 := (h5 0 (by simp)).1
        have c1 := (h5 0 (by simp)).2
        have e0 := (g5 0 (by simp)).1
        have e1 := (g5 0 (by simp)).2
        replace c0 := (hk.cell (p := ⟨ba, oa + 0 * 2, none⟩) (lt_of_cell c0)).trans c0
        replace c1 := (hk.cell (p := ⟨ba, oa + 0 * 2 + 1, none⟩) (lt_of_cell c1)).trans c1
        replace e0 := (hk.cell (p := ⟨bb, ob + 0 * 2, none⟩) (lt_of_cell e0)).trans e0
        replace e1 := (hk.cell (p := ⟨bb, ob + 0 * 2 + 1, none⟩) (lt_of_cell e1)).trans e1
        obtain ⟨x0, x1⟩ := x
        obtain ⟨y0, y1⟩ := y
        replace c0 : wr.cell? ⟨ba, oa, none⟩ = some (.int .i64 x0) := c0
        replace c1 : wr.cell? ⟨ba, oa + 1, none⟩ = some (.int .i64 x1) := by rw [show oa + 1 = oa + 0 * 2 + 1 from by omega]; exact c1
        replace e0 : wr.cell? ⟨bb, ob, none⟩ = some (.int .i64 y0) := e0
        replace e1 : wr.cell? ⟨bb, ob + 1, none⟩ = some (.int .i64 y1) := by rw [show ob + 1 = ob + 0 * 2 + 1 from by omega]; exact e1
        have n1 : ((x0, x1) :: a).length = a.length + 1 := rfl
        have n2 : ((y0, y1) :: b).length = b.length + 1 := rfl
        have HX := hide (h6 (x0, x1) List.mem_cons_self)
        have HY := hide (g6 (y0, y1) List.mem_cons_self)
        clear hk h5 h6 g5 g6 h4 g4
        generalize hla : ((x0, x1) :: a).length = la at *
        generalize hlb : ((y0, y1) :: b).length = lb at *
        have la1 : (0 : Int) < (la : Int) := by omega
        have lb1 : (0 : Int) < (lb : Int) := by omega
        replace n1 := hide n1
        replace n2 := hide n2
        replace hla := hide hla
        replace hlb := hide hlb
        have k1 := lt_of_cell c0
        have k2 := lt_of_cell e0
        have k3 : ¬ ba = wr.heap.size := by omega
        have k4 : ¬ bb = wr.heap.size := by omega
        have k5 : ¬ ba = wr.heap.size + 1 := by omega
        have k6 : ¬ bb = wr.heap.size + 1 := by omega
        go_upto_region 3 with fail
        go_cut [10, 11] from 18 to 70 (fun p q wx => ∃ bx by_, p = .pointer (some ⟨bx, 0, none⟩) ∧ q = .pointer (some ⟨by_, 0, none⟩) ∧ Hid (Below wr.heap.size wr wx ∧ R2 wx bx x0 x1 ∧ R2 wx by_ y0 y1) ∧ wr.heap.size ≤ bx ∧ wr.heap.size ≤ by_)
        case first =>
          go_region
          · go_wp2
            go_meet
            exact ⟨_, _, rfl, rfl, hide (two_new wr x0 x1 y0 y1), by omega, by omega⟩
          · go_wp2
            go_meet
            exact ⟨_, _, rfl, rfl, hide ⟨(two_new wr y0 y1 x0 x1).1, (two_new wr y0 y1 x0 x1).2.2, (two_new wr y0 y1 x0 x1).2.1⟩, by omega, by omega⟩
        case rest =>
          obtain ⟨bx, by_, rfl, rfl, HR, f1, f2⟩ := hcut
          clear c0 c1 e0 e1 k1 k2 k3 k4 k5 k6
          have HI : IX wr bx by_ x0 x1 y0 y1 wc := IX.mk (unhide HR)
          have F1 := (unhide HM).far f1
          have F2 := (unhide HM).far f2
          have HL : Hid (dn.length ≤ 1000000) := hide (by omega)
          have s1 : (1 : Int) ≤ (la : Int) := by omega
          have s2 : (la : Int) ≤ (ac : Int) := by omega
          have s3 : (1 : Int) ≤ (ac : Int) := by omega
          have r1 : (1 : Int) ≤ (lb : Int) := by omega
          have r2 : (lb : Int) ≤ (bc : Int) := by omega
          have r3 : (1 : Int) ≤ (bc : Int) := by omega
          clear HR f1 f2
          by_cases q : x0 < y0
          · have q1 := decide_eq_true q
            go_wp2_with fail
            go_region_held3 (fun w' => w'.cell? ⟨bx, 0, none⟩ = some (.int .i64 x0) ∧ w'.cell? ⟨bx, 1, none⟩ = some (.int .i64 x1) ∧ w'.cell? ⟨by_, 0, none⟩ = some (.int .i64 y0) ∧ w'.cell? ⟨by_, 1, none⟩ = some (.int .i64 y1) ∧ Hid (Below wr.heap.size wr w' ∧ R2 w' bx x0 x1 ∧ R2 w' by_ y0 y1))
              (first
                | exact IX.keep (by assumption) hbA
                | exact IX.keep HI hbA
                | exact IX.keep HI.drew hbA
                | exact HI.drew
                | exact HI)
              (first
                | (go_at_call 26; refine (dayOf_any x0 x1 _).mono ?_; rintro z wA ⟨rfl, hbA⟩)
                | (go_at_call 26; refine (dayOf_any y0 y1 _).mono ?_; rintro z wA ⟨rfl, hbA⟩))
            rename_i hH
            clear HI hbA
            replace HI : IX wr bx by_ x0 x1 y0 y1 wA := hH
            clear hH
            have HG := hide ((unhide HM).grow.keep (unhide HI.2.2.2.2).1)
            have HJ : IY bx by_ x0 x1 y0 y1 wA := IY.mk (unhide HI.2.2.2.2).2
            clear HI
            go_wp2_with fail
            go_region_held3 (fun w' => w'.cell? ⟨bx, 0, none⟩ = some (.int .i64 x0) ∧ w'.cell? ⟨bx, 1, none⟩ = some (.int .i64 x1) ∧ w'.cell? ⟨by_, 0, none⟩ = some (.int .i64 y0) ∧ w'.cell? ⟨by_, 1, none⟩ = some (.int .i64 y1) ∧ Hid (R2 w' bx x0 x1 ∧ R2 w' by_ y0 y1))
              (first
                | exact IY.grown (HJ.alloc _) hK2 F1 F2
                | exact IY.grown (HJ.drew.alloc _) hK2 F1 F2
                | exact IY.grown (HJ.alloc _).drew hK2 F1 F2
                | exact HJ.drew.alloc _
                | exact (HJ.alloc _).drew
                | exact HJ.alloc _
                | exact HJ.drew
                | exact HJ)
              ((refine step_pushF (by rfl) (.tmp 51) (.tmp 53) (by rfl) w _ _ _ dn (x0, x1) (by first | exact ((unhide HG).alloc _).drew | exact (unhide HG).drew.alloc _) (by exact R2.new _ _ _) (by rfl) (by rfl) (unhide HL) (unhide HX) ?_; intro v2 W2 hG2 hK2))
            clear HJ
            have HM2 := hide ((unhide HM).left hG2 q)
            have HT := hide (RowF.tail (x := (x0, x1)) (l := a) (cap := ac) (b := ba) (off := oa) (w := w) (by rw [unhide hla]; exact unhide HRa))
            clear hG2 hK2 HM HG
            go_wp2_with fail
            go_roundw
            case rel => exact ⟨a, (y0, y1) :: b, _, ⟨_, _, by rw [show la - 1 = a.length from by rw [unhide n1]; rfl]⟩, ⟨_, _, by rw [unhide hlb]⟩, by rw [show la - 1 = a.length from by rw [unhide n1]; rfl]; exact HT, HRb, HM2⟩
            case measure => simp only [lenV]; omega
          · have q1 := decide_eq_false q
            by_cases qq : y0 < x0
            · have q2 := decide_eq_true qq
              go_wp2_with fail
              go_region_held3 (fun w' => w'.cell? ⟨bx, 0, none⟩ = some (.int .i64 x0) ∧ w'.cell? ⟨bx, 1, none⟩ = some (.int .i64 x1) ∧ w'.cell? ⟨by_, 0, none⟩ = some (.int .i64 y0) ∧ w'.cell? ⟨by_, 1, none⟩ = some (.int .i64 y1) ∧ Hid (Below wr.heap.size wr w' ∧ R2 w' bx x0 x1 ∧ R2 w' by_ y0 y1))
                (first
                  | exact IX.keep (by assumption) hbA
                  | exact IX.keep HI hbA
                  | exact IX.keep HI.drew hbA
                  | exact HI.drew
                  | exact HI)
                (first
                  | (go_at_call 26; refine (dayOf_any x0 x1 _).mono ?_; rintro z wA ⟨rfl, hbA⟩)
                  | (go_at_call 26; refine (dayOf_any y0 y1 _).mono ?_; rintro z wA ⟨rfl, hbA⟩))
              rename_i hH
              clear HI hbA
              replace HI : IX wr bx by_ x0 x1 y0 y1 wA := hH
              clear hH
              go_wp2_with fail
              go_region_held3 (fun w' => w'.cell? ⟨bx, 0, none⟩ = some (.int .i64 x0) ∧ w'.cell? ⟨bx, 1, none⟩ = some (.int .i64 x1) ∧ w'.cell? ⟨by_, 0, none⟩ = some (.int .i64 y0) ∧ w'.cell? ⟨by_, 1, none⟩ = some (.int .i64 y1) ∧ Hid (Below wr.heap.size wr w' ∧ R2 w' bx x0 x1 ∧ R2 w' by_ y0 y1))
                (first
                  | exact IX.keep (by assumption) hbA
                  | exact IX.keep HI hbA
                  | exact IX.keep HI.drew hbA
                  | exact HI.drew
                  | exact HI)
                (first
                  | (go_at_call 26; refine (dayOf_any x0 x1 _).mono ?_; rintro z wA ⟨rfl, hbA⟩)
                  | (go_at_call 26; refine (dayOf_any y0 y1 _).mono ?_; rintro z wA ⟨rfl, hbA⟩))
              rename_i hH
              clear HI hbA
              replace HI : IX wr bx by_ x0 x1 y0 y1 wA := hH
              clear hH
              have HG := hide ((unhide HM).grow.keep (unhide HI.2.2.2.2).1)
              have HJ : IY bx by_ x0 x1 y0 y1 wA := IY.mk (unhide HI.2.2.2.2).2
              clear HI
              go_wp2_with fail
              go_region_held3 (fun w' => w'.cell? ⟨bx, 0, none⟩ = some (.int .i64 x0) ∧ w'.cell? ⟨bx, 1, none⟩ = some (.int .i64 x1) ∧ w'.cell? ⟨by_, 0, none⟩ = some (.int .i64 y0) ∧ w'.cell? ⟨by_, 1, none⟩ = some (.int .i64 y1) ∧ Hid (R2 w' bx x0 x1 ∧ R2 w' by_ y0 y1))
                (first
                  | exact IY.grown (HJ.alloc _) hK2 F1 F2
                  | exact IY.grown (HJ.drew.alloc _) hK2 F1 F2
                  | exact IY.grown (HJ.alloc _).drew hK2 F1 F2
                  | exact HJ.drew.alloc _
                  | exact (HJ.alloc _).drew
                  | exact HJ.alloc _
                  | exact HJ.drew
                  | exact HJ)
                ((refine step_pushF (by rfl) (.tmp 65) (.tmp 67) (by rfl) w _ _ _ dn (y0, y1) (by first | exact ((unhide HG).alloc _).drew | exact (unhide HG).drew.alloc _) (by exact R2.new _ _ _) (by rfl) (by rfl) (unhide HL) (unhide HY) ?_; intro v2 W2 hG2 hK2))
              clear HJ
              have HM2 := hide ((unhide HM).right hG2 qq)
              have HT := hide (RowF.tail (x := (y0, y1)) (l := b) (cap := bc) (b := bb) (off := ob) (w := w) (by rw [unhide hlb]; exact unhide HRb))
              clear hG2 hK2 HM HG
              go_wp2_with fail
              go_roundw
              case rel => exact ⟨(x0, x1) :: a, b, _, ⟨_, _, by rw [unhide hla]⟩, ⟨_, _, by rw [show lb - 1 = b.length from by rw [unhide n2]; rfl]⟩, HRa, by rw [show lb - 1 = b.length from by rw [unhide n2]; rfl]; exact HT, HM2⟩
              case measure => simp only [lenV]; omega
            · have q2 := decide_eq_false qq
              obtain rfl : x0 = y0 := by omega
              have HS : Hid (wrap64 (x1 + y1) = x1 + y1) := hide (by
                have := may_bd ((unhide HM).mayA _ List.mem_cons_self)
                have := may_bd ((unhide HM).mayB _ List.mem_cons_self)
                exact wrap_in ⟨by omega, by omega⟩)
              have HZ : Hid (In64 x0 ∧ In64 (x1 + y1)) := hide ⟨(unhide HX).1, by
                have := may_bd ((unhide HM).mayA _ List.mem_cons_self)
                have := may_bd ((unhide HM).mayB _ List.mem_cons_self)
                exact ⟨by omega, by omega⟩⟩
              go_wp2_with fail
              go_region_held3 (fun w' => w'.cell? ⟨bx, 0, none⟩ = some (.int .i64 x0) ∧ w'.cell? ⟨bx, 1, none⟩ = some (.int .i64 x1) ∧ w'.cell? ⟨by_, 0, none⟩ = some (.int .i64 x0) ∧ w'.cell? ⟨by_, 1, none⟩ = some (.int .i64 y1) ∧ Hid (Below wr.heap.size wr w' ∧ R2 w' bx x0 x1 ∧ R2 w' by_ x0 y1))
                (first
                  | exact IX.keep (by assumption) hbA
                  | exact IX.keep HI hbA
                  | exact IX.keep HI.drew hbA
                  | exact HI.drew
                  | exact HI)
                (first
                  | (go_at_call 26; refine (dayOf_any x0 x1 _).mono ?_; rintro z wA ⟨rfl, hbA⟩)
                  | (go_at_call 26; refine (dayOf_any x0 y1 _).mono ?_; rintro z wA ⟨rfl, hbA⟩))
              rename_i hH
              clear HI hbA
              replace HI : IX wr bx by_ x0 x1 x0 y1 wA := hH
              clear hH
              go_wp2_with fail
              go_region_held3 (fun w' => w'.cell? ⟨bx, 0, none⟩ = some (.int .i64 x0) ∧ w'.cell? ⟨bx, 1, none⟩ = some (.int .i64 x1) ∧ w'.cell? ⟨by_, 0, none⟩ = some (.int .i64 x0) ∧ w'.cell? ⟨by_, 1, none⟩ = some (.int .i64 y1) ∧ Hid (Below wr.heap.size wr w' ∧ R2 w' bx x0 x1 ∧ R2 w' by_ x0 y1))
                (first
                  | exact IX.keep (by assumption) hbA
                  | exact IX.keep HI hbA
                  | exact IX.keep HI.drew hbA
                  | exact HI.drew
                  | exact HI)
                (first
                  | (go_at_call 26; refine (dayOf_any x0 x1 _).mono ?_; rintro z wA ⟨rfl, hbA⟩)
                  | (go_at_call 26; refine (dayOf_any x0 y1 _).mono ?_; rintro z wA ⟨rfl, hbA⟩))
              rename_i hH
              clear HI hbA
              replace HI : IX wr bx by_ x0 x1 x0 y1 wA := hH
              clear hH
              have HTT : Hid (RowF w (.slice (if ac = 1 then some ⟨ba, oa, none⟩ else some ⟨ba, oa + 2, none⟩) a.length (ac - 1)) a ∧ RowF w (.slice (if bc = 1 then some ⟨bb, ob, none⟩ else some ⟨bb, ob + 2, none⟩) b.length (bc - 1)) b) := hide ⟨RowF.tail (x := (x0, x1)) (by rw [unhide hla]; exact unhide HRa), RowF.tail (x := (x0, y1)) (by rw [unhide hlb]; exact unhide HRb)⟩
              clear HRa HRb
              by_cases m1 : ac = 1
              · by_cases m2 : bc = 1
                · subst m1
                  have t1 := hide (unhide HTT).1
                  rw [if_pos rfl] at t1
                  subst m2
                  have t2 := hide (unhide HTT).2
                  rw [if_pos rfl] at t2
                  clear HTT
                  have HG := hide ((unhide HM).grow.keep (unhide HI.2.2.2.2).1)
                  have HJ : IY bx by_ x0 x1 x0 y1 wA := IY.mk (unhide HI.2.2.2.2).2
                  clear HI
                  go_wp2_with fail
                  go_region_held3 (fun w' => w'.cell? ⟨bx, 0, none⟩ = some (.int .i64 x0) ∧ w'.cell? ⟨bx, 1, none⟩ = some (.int .i64 x1) ∧ w'.cell? ⟨by_, 0, none⟩ = some (.int .i64 x0) ∧ w'.cell? ⟨by_, 1, none⟩ = some (.int .i64 y1) ∧ Hid (R2 w' bx x0 x1 ∧ R2 w' by_ x0 y1))
                    (first
                      | exact IY.grown (HJ.alloc _) hK2 F1 F2
                      | exact IY.grown (HJ.drew.alloc _) hK2 F1 F2
                      | exact IY.grown (HJ.alloc _).drew hK2 F1 F2
                      | exact IY.grown ((HJ.drew.keep hbB).alloc _) hK2 F1 F2
                      | exact IY.grown ((HJ.keep hbB).alloc _) hK2 F1 F2
                      | exact HJ.drew.keep hbB
                      | exact HJ.keep hbB
                      | exact (HJ.drew.keep hbB).alloc _
                      | exact (HJ.keep hbB).alloc _
                      | exact HJ.drew.alloc _
                      | exact (HJ.alloc _).drew
                      | exact HJ.alloc _
                      | exact HJ.drew
                      | exact HJ)
                    (first
                      | (go_at_call 27; refine (together_any x0 x1 x0 y1 (unhide HS) _).mono ?_; rintro z wB ⟨rfl, hbB⟩)
                      | (refine step_pushF (by rfl) (.tmp 32) (.tmp 37) (by rfl) w _ _ _ dn (x0, x1 + y1) (by first | exact ((unhide HG).drew.keep hbB).alloc _ | exact ((unhide HG).keep hbB).alloc _ | exact (((unhide HG).keep hbB).alloc _).drew) (by exact R2.new _ _ _) (by rfl) (by rfl) (unhide HL) (unhide HZ) ?_; intro v2 W2 hG2 hK2))
                  clear HJ
                  have HM2 := hide ((unhide HM).both hG2 rfl)
                  clear hG2 hK2 HM HG
                  go_wp2_with fail
                  go_roundw
                  case rel => exact ⟨a, b, _, ⟨_, _, by first | rw [show la - 1 = a.length from by rw [unhide n1]; rfl] | rw [show a.length = 0 from by have := unhide n1; omega]⟩, ⟨_, _, by first | rw [show lb - 1 = b.length from by rw [unhide n2]; rfl] | rw [show b.length = 0 from by have := unhide n2; omega]⟩, by first | (rw [show la - 1 = a.length from by rw [unhide n1]; rfl]; exact t1) | (rw [show a.length = 0 from by have := unhide n1; omega] at t1; exact t1), by first | (rw [show lb - 1 = b.length from by rw [unhide n2]; rfl]; exact t2) | (rw [show b.length = 0 from by have := unhide n2; omega] at t2; exact t2), HM2⟩
                  case measure => simp only [lenV]; omega
                · subst m1
                  have t1 := hide (unhide HTT).1
                  rw [if_pos rfl] at t1
                  have t2 := hide (unhide HTT).2
                  rw [if_neg m2] at t2
                  clear HTT
                  have HG := hide ((unhide HM).grow.keep (unhide HI.2.2.2.2).1)
                  have HJ : IY bx by_ x0 x1 x0 y1 wA := IY.mk (unhide HI.2.2.2.2).2
                  clear HI
                  go_wp2_with fail
                  go_region_held3 (fun w' => w'.cell? ⟨bx, 0, none⟩ = some (.int .i64 x0) ∧ w'.cell? ⟨bx, 1, none⟩ = some (.int .i64 x1) ∧ w'.cell? ⟨by_, 0, none⟩ = some (.int .i64 x0) ∧ w'.cell? ⟨by_, 1, none⟩ = some (.int .i64 y1) ∧ Hid (R2 w' bx x0 x1 ∧ R2 w' by_ x0 y1))
                    (first
                      | exact IY.grown (HJ.alloc _) hK2 F1 F2
                      | exact IY.grown (HJ.drew.alloc _) hK2 F1 F2
                      | exact IY.grown (HJ.alloc _).drew hK2 F1 F2
                      | exact IY.grown ((HJ.drew.keep hbB).alloc _) hK2 F1 F2
                      | exact IY.grown ((HJ.keep hbB).alloc _) hK2 F1 F2
                      | exact HJ.drew.keep hbB
                      | exact HJ.keep hbB
                      | exact (HJ.drew.keep hbB).alloc _
                      | exact (HJ.keep hbB).alloc _
                      | exact HJ.drew.alloc _
                      | exact (HJ.alloc _).drew
                      | exact HJ.alloc _
                      | exact HJ.drew
                      | exact HJ)
                    (first
                      | (go_at_call 27; refine (together_any x0 x1 x0 y1 (unhide HS) _).mono ?_; rintro z wB ⟨rfl, hbB⟩)
                      | (refine step_pushF (by rfl) (.tmp 32) (.tmp 37) (by rfl) w _ _ _ dn (x0, x1 + y1) (by first | exact ((unhide HG).drew.keep hbB).alloc _ | exact ((unhide HG).keep hbB).alloc _ | exact (((unhide HG).keep hbB).alloc _).drew) (by exact R2.new _ _ _) (by rfl) (by rfl) (unhide HL) (unhide HZ) ?_; intro v2 W2 hG2 hK2))
                  clear HJ
                  have HM2 := hide ((unhide HM).both hG2 rfl)
                  clear hG2 hK2 HM HG
                  go_wp2_with fail
                  go_roundw
                  case rel => exact ⟨a, b, _, ⟨_, _, by first | rw [show la - 1 = a.length from by rw [unhide n1]; rfl] | rw [show a.length = 0 from by have := unhide n1; omega]⟩, ⟨_, _, by first | rw [show lb - 1 = b.length from by rw [unhide n2]; rfl] | rw [show b.length = 0 from by have := unhide n2; omega]⟩, by first | (rw [show la - 1 = a.length from by rw [unhide n1]; rfl]; exact t1) | (rw [show a.length = 0 from by have := unhide n1; omega] at t1; exact t1), by first | (rw [show lb - 1 = b.length from by rw [unhide n2]; rfl]; exact t2) | (rw [show b.length = 0 from by have := unhide n2; omega] at t2; exact t2), HM2⟩
                  case measure => simp only [lenV]; omega
              · by_cases m2 : bc = 1
                · have t1 := hide (unhide HTT).1
                  rw [if_neg m1] at t1
                  subst m2
                  have t2 := hide (unhide HTT).2
                  rw [if_pos rfl] at t2
                  clear HTT
                  have HG := hide ((unhide HM).grow.keep (unhide HI.2.2.2.2).1)
                  have HJ : IY bx by_ x0 x1 x0 y1 wA := IY.mk (unhide HI.2.2.2.2).2
                  clear HI
                  go_wp2_with fail
                  go_region_held3 (fun w' => w'.cell? ⟨bx, 0, none⟩ = some (.int .i64 x0) ∧ w'.cell? ⟨bx, 1, none⟩ = some (.int .i64 x1) ∧ w'.cell? ⟨by_, 0, none⟩ = some (.int .i64 x0) ∧ w'.cell? ⟨by_, 1, none⟩ = some (.int .i64 y1) ∧ Hid (R2 w' bx x0 x1 ∧ R2 w' by_ x0 y1))
                    (first
                      | exact IY.grown (HJ.alloc _) hK2 F1 F2
                      | exact IY.grown (HJ.drew.alloc _) hK2 F1 F2
                      | exact IY.grown (HJ.alloc _).drew hK2 F1 F2
                      | exact IY.grown ((HJ.drew.keep hbB).alloc _) hK2 F1 F2
                      | exact IY.grown ((HJ.keep hbB).alloc _) hK2 F1 F2
                      | exact HJ.drew.keep hbB
                      | exact HJ.keep hbB
                      | exact (HJ.drew.keep hbB).alloc _
                      | exact (HJ.keep hbB).alloc _
                      | exact HJ.drew.alloc _
                      | exact (HJ.alloc _).drew
                      | exact HJ.alloc _
                      | exact HJ.drew
                      | exact HJ)
                    (first
                      | (go_at_call 27; refine (together_any x0 x1 x0 y1 (unhide HS) _).mono ?_; rintro z wB ⟨rfl, hbB⟩)
                      | (refine step_pushF (by rfl) (.tmp 32) (.tmp 37) (by rfl) w _ _ _ dn (x0, x1 + y1) (by first | exact ((unhide HG).drew.keep hbB).alloc _ | exact ((unhide HG).keep hbB).alloc _ | exact (((unhide HG).keep hbB).alloc _).drew) (by exact R2.new _ _ _) (by rfl) (by rfl) (unhide HL) (unhide HZ) ?_; intro v2 W2 hG2 hK2))
                  clear HJ
                  have HM2 := hide ((unhide HM).both hG2 rfl)
                  clear hG2 hK2 HM HG
                  go_wp2_with fail
                  go_roundw
                  case rel => exact ⟨a, b, _, ⟨_, _, by first | rw [show la - 1 = a.length from by rw [unhide n1]; rfl] | rw [show a.length = 0 from by have := unhide n1; omega]⟩, ⟨_, _, by first | rw [show lb - 1 = b.length from by rw [unhide n2]; rfl] | rw [show b.length = 0 from by have := unhide n2; omega]⟩, by first | (rw [show la - 1 = a.length from by rw [unhide n1]; rfl]; exact t1) | (rw [show a.length = 0 from by have := unhide n1; omega] at t1; exact t1), by first | (rw [show lb - 1 = b.length from by rw [unhide n2]; rfl]; exact t2) | (rw [show b.length = 0 from by have := unhide n2; omega] at t2; exact t2), HM2⟩
                  case measure => simp only [lenV]; omega
                · have t1 := hide (unhide HTT).1
                  rw [if_neg m1] at t1
                  have t2 := hide (unhide HTT).2
                  rw [if_neg m2] at t2
                  clear HTT
                  have HG := hide ((unhide HM).grow.keep (unhide HI.2.2.2.2).1)
                  have HJ : IY bx by_ x0 x1 x0 y1 wA := IY.mk (unhide HI.2.2.2.2).2
                  clear HI
                  go_wp2_with fail
                  go_region_held3 (fun w' => w'.cell? ⟨bx, 0, none⟩ = some (.int .i64 x0) ∧ w'.cell? ⟨bx, 1, none⟩ = some (.int .i64 x1) ∧ w'.cell? ⟨by_, 0, none⟩ = some (.int .i64 x0) ∧ w'.cell? ⟨by_, 1, none⟩ = some (.int .i64 y1) ∧ Hid (R2 w' bx x0 x1 ∧ R2 w' by_ x0 y1))
                    (first
                      | exact IY.grown (HJ.alloc _) hK2 F1 F2
                      | exact IY.grown (HJ.drew.alloc _) hK2 F1 F2
                      | exact IY.grown (HJ.alloc _).drew hK2 F1 F2
                      | exact IY.grown ((HJ.drew.keep hbB).alloc _) hK2 F1 F2
                      | exact IY.grown ((HJ.keep hbB).alloc _) hK2 F1 F2
                      | exact HJ.drew.keep hbB
                      | exact HJ.keep hbB
                      | exact (HJ.drew.keep hbB).alloc _
                      | exact (HJ.keep hbB).alloc _
                      | exact HJ.drew.alloc _
                      | exact (HJ.alloc _).drew
                      | exact HJ.alloc _
                      | exact HJ.drew
                      | exact HJ)
                    (first
                      | (go_at_call 27; refine (together_any x0 x1 x0 y1 (unhide HS) _).mono ?_; rintro z wB ⟨rfl, hbB⟩)
                      | (refine step_pushF (by rfl) (.tmp 32) (.tmp 37) (by rfl) w _ _ _ dn (x0, x1 + y1) (by first | exact ((unhide HG).drew.keep hbB).alloc _ | exact ((unhide HG).keep hbB).alloc _ | exact (((unhide HG).keep hbB).alloc _).drew) (by exact R2.new _ _ _) (by rfl) (by rfl) (unhide HL) (unhide HZ) ?_; intro v2 W2 hG2 hK2))
                  clear HJ
                  have HM2 := hide ((unhide HM).both hG2 rfl)
                  clear hG2 hK2 HM HG
                  go_wp2_with fail
                  go_roundw
                  case rel => exact ⟨a, b, _, ⟨_, _, by first | rw [show la - 1 = a.length from by rw [unhide n1]; rfl] | rw [show a.length = 0 from by have := unhide n1; omega]⟩, ⟨_, _, by first | rw [show lb - 1 = b.length from by rw [unhide n2]; rfl] | rw [show b.length = 0 from by have := unhide n2; omega]⟩, by first | (rw [show la - 1 = a.length from by rw [unhide n1]; rfl]; exact t1) | (rw [show a.length = 0 from by have := unhide n1; omega] at t1; exact t1), by first | (rw [show lb - 1 = b.length from by rw [unhide n2]; rfl]; exact t2) | (rw [show b.length = 0 from by have := unhide n2; omega] at t2; exact t2), HM2⟩
                  case measure => simp only [lenV]; omega
      · obtain rfl : b = [] := List.eq_nil_of_length_eq_zero (by omega)
        have ea : (0 : Int) < (a.length : Int) := by omega
        have HG := hide (unhide HM).grow
        have HE : Hid (dn ++ a = r) := hide (by have := (unhide HM).all; rwa [mrg_nil] at this)
        have HF := hide ((unhide HRa).keep (unhide HG).below)
        have HL : Hid (dn.length + a.length ≤ 1000000) := hide (by omega)
        clear HM
        go_wp2_with (at_builtin; refine listF_from rfl _ _ rfl w _ _ _ dn a (unhide HG) (unhide HF) rfl rfl (unhide HL) ?_)
        intro v2 W2 hG2
        rw [unhide HE] at hG2
        have HL2 : Hid (r.length + ([] : List (Int × Int)).length ≤ 1000000) := hide (by rw [← unhide HE, List.length_append]; simp; omega)
        have HF2 := hide ((unhide HRb).keep hG2.below)
        replace hG2 := hide hG2
        clear HG HE HF HL
        go_wp2_with (at_builtin; refine listF_from rfl _ _ rfl w _ _ _ r [] (unhide hG2) (unhide HF2) rfl rfl (unhide HL2) ?_)
        intro v3 W3 hG3
        replace hG3 : Hid (GrowF 39 w W3 v3 r) := hide (by simpa using hG3)
        go_wp2
        go_ret
        exact ⟨_, rfl, unhide hG3⟩
    · obtain rfl : a = [] := List.eq_nil_of_length_eq_zero (by omega)
      have HG := hide (unhide HM).grow
      have HE : Hid (dn ++ b = r) := hide (unhide HM).all
      have HF := hide ((unhide HRa).keep (unhide HG).below)
      have HL : Hid (dn.length + ([] : List (Int × Int)).length ≤ 1000000) := hide (by simp; omega)
      have HL2 : Hid (dn.length + b.length ≤ 1000000) := hide (by omega)
      clear HM
      go_wp2_with (at_builtin; refine listF_from rfl _ _ rfl w _ _ _ dn [] (unhide HG) (unhide HF) rfl rfl (unhide HL) ?_)
      intro v2 W2 hG2
      replace hG2 : GrowF 39 w W2 v2 dn := by simpa using hG2
      have HF2 := hide ((unhide HRb).keep hG2.below)
      replace hG2 := hide hG2
      clear HG HF HL
      go_wp2_with (at_builtin; refine listF_from rfl _ _ rfl w _ _ _ dn b (unhide hG2) (unhide HF2) rfl rfl (unhide HL2) ?_)
      intro v3 W3 hG3
      rw [unhide HE] at hG3
      replace hG3 := hide hG3
      go_wp2
      go_ret
      exact ⟨_, rfl, unhide hG3⟩
end Go.Proofs.Ytkjbkppjebljpaa
