/- LoanLives, plain. -/
import Derived.Test.YtpeoabopeihadaaULTx
import Derived.Test.YtpeoabopeihadaaUS
set_option linter.unusedVariables false
set_option linter.unusedSimpArgs false
set_option linter.unusedSectionVars false
namespace Go.Proofs.Ytpeoabopeihadaa.Mn
open Go.RowKit
theorem recv_inc (L : Ln) (e : Bool) (p J : Int) : (recvK L e p J).inc = L.inc + recvJ L e p J ∧ (recvK L e p J).got = L.got + p ∧ (recvK L e p J).wri = L.wri ∧ (recvK L e p J).rcv = L.rcv ∧ (recvK L e p J).adj = L.adj := by
  unfold recvK recvJ
  split <;> exact ⟨rfl, rfl, rfl, rfl, rfl⟩
theorem do_sums (k : Nat) (L : Ln) (l : List Int) (p : Int) : (doS k L l p).K.inc = L.inc + (doS k L l p).m.i ∧ (doS k L l p).K.got = L.got + (doS k L l p).m.p ∧ (doS k L l p).K.wri = L.wri + (doS k L l p).m.w ∧ (doS k L l p).K.rcv = L.rcv + (doS k L l p).m.r ∧ (doS k L l p).K.adj = L.adj := by
  unfold doS
  by_cases h1 : k = 1
  · rw [if_pos h1]
    obtain ⟨a, b, c, d, e⟩ := recv_inc (stepL L (l.headD 0)) l.tail.isEmpty p (qI L.gr L.rt)
    exact ⟨a, b, by rw [Int.add_zero]; exact c, by rw [Int.add_zero]; exact d, e⟩
  rw [if_neg h1]
  by_cases h2 : k = 2
  · rw [if_pos h2]
    obtain ⟨a, b, c, d, e⟩ := recv_inc L l.isEmpty p 0
    exact ⟨a, b, by rw [Int.add_zero]; exact c, by rw [Int.add_zero]; exact d, e⟩
  rw [if_neg h2]
  by_cases h3 : k = 3
  · rw [if_pos h3]
    unfold wrK
    split <;> exact ⟨(Int.add_zero _).symm, (Int.add_zero _).symm, rfl, (Int.add_zero _).symm, rfl⟩
  · rw [if_neg h3]
    exact ⟨(Int.add_zero _).symm, (Int.add_zero _).symm, (Int.add_zero _).symm, rfl, rfl⟩
def DoF (kd p : Int) (L : Ln) (l : List Int) (K : Ln) (l2 : List Int) (m0 m1 m2 m3 e : Int) : Prop := ∀ (W : World) (a : Option Addr) (n c : Nat), Row W (.slice a n c) l → Sl a n c → l.length ≤ 17592186044000 → Calls (Tri Try.prog) 33 #[.agg (lnA L (.slice a n c)), .int .i64 kd, .int .i64 p] W fun z w2 => ∃ a3 c3, z = .returned (.tuple #[.agg (lnA K (.slice a3 l2.length c3)), .agg #[.int .i64 m0, .int .i64 m1, .int .i64 m2, .int .i64 m3], .int .i64 e]) ∧ Row w2 (.slice a3 l2.length c3) l2 ∧ Sl a3 l2.length c3 ∧ (∀ x, a3 = some x → W.heap.size ≤ x.block) ∧ Below W.heap.size W w2
theorem doF_of (kd p : Int) (L : Ln) (l : List Int) : DoF kd p L l (stepR (kOf kd) L l p).K (stepR (kOf kd) L l p).l (stepR (kOf kd) L l p).m.i (stepR (kOf kd) L l p).m.p (stepR (kOf kd) L l p).m.w (stepR (kOf kd) L l p).m.r (stepE (kOf kd) L l p) := fun W a n c h1 h2 h3 => dok_any (L := L) (kd := kd) (p := p) h1 h2 h3
structure LvI (L : Ln) (l : List Int) (A : Mv) : Prop where
  rt : rightB L l = true
  i : L.inc = A.i
  p : L.got = A.p
  w : L.wri = A.w
  r : L.rcv = A.r
  adj : L.adj = 0
theorem lv_step {L : Ln} {l : List Int} {A : Mv} {kd p : Int} (h : LvI L l A) :
    ∃ (K : Ln) (l2 : List Int) (M : Mv) (e : Int), DoF kd p L l K l2 M.i M.p M.w M.r e ∧
      (((e != 0) = true ∧ M.i = 0 ∧ M.p = 0 ∧ M.w = 0 ∧ M.r = 0 ∧ K.st = 0) ∨
       ((e != 0) = false ∧ LvI K l2 ⟨A.i + M.i, A.p + M.p, A.w + M.w, A.r + M.r⟩)) := by
  refine ⟨_, _, _, _, doF_of kd p L l, ?_⟩
  by_cases he : stepE (kOf kd) L l p = 0
  · refine .inr ⟨by simpa using he, ?_⟩
    obtain ⟨_, h2, h3⟩ := step_ok he
    obtain ⟨a, b, c, d, e⟩ := do_sums (kOf kd) L l p
    rw [h2]
    exact ⟨of_rt h3, by rw [a, h.i], by rw [b, h.p], by rw [c, h.w], by rw [d, h.r], by rw [e, h.adj]⟩
  · refine .inl ⟨by simpa using he, ?_⟩
    have hR : stepR (kOf kd) L l p = zD := by unfold stepR; rw [if_neg he]
    rw [hR]
    exact ⟨rfl, rfl, rfl, rfl, rfl⟩
theorem lv_in {L : Ln} {l : List Int} {A : Mv} (h : LvI L l A) : (-1125899906842624 ≤ A.i ∧ A.i ≤ 1125899906842624) ∧ (0 ≤ A.p ∧ A.p ≤ 1125899906842624) ∧ (0 ≤ A.w ∧ A.w ≤ 1125899906842624) ∧ (0 ≤ A.r ∧ A.r ≤ 1125899906842624) ∧ l.length ≤ 600 := by
  have r := rt_of h.rt
  refine ⟨?_, ?_, ?_, ?_, r.len⟩
  · rw [← h.i]; exact r.inc
  · rw [← h.p]; exact r.got
  · rw [← h.w]; exact r.wri
  · rw [← h.r]; exact r.rcv
theorem new_rt {id out : Int} {l : List Int} {r : Int} (h : NewE id out l r 0) : Rt (newK id out r) l ∧ l ≠ [] := by
  rcases h with ⟨_, _, h⟩ | ⟨hi, h⟩
  · cases h
  rcases h with ⟨_, _, h⟩ | ⟨hm, ⟨_, _, h⟩ | ⟨h, _⟩⟩
  · cases h
  · cases h
  have hs := maySo_yes hm
  have h1 := hs.lo
  have h2 := hs.hi
  have h3 := h.lo
  have h4 := h.hi
  refine ⟨⟨inB_yes hi, ?_, ?_, ⟨h1, h2⟩, ⟨h3, by show r ≤ _; omega⟩, ?_, ?_, ?_, ?_, ?_, ?_, ?_, hs.len, hs.amt, .inl rfl, ?_⟩, fun e => ?_⟩
  · simp [newK]
  · simp [newK]
  · simp only [newK]; omega
  · simp [newK]
  · simp [newK]
  · simp [newK]
  · simp [newK]
  · simp [newK]
  · simp [newK]
  · simp [newK]
  · rw [e, maySo_nil] at hm
    cases hm
theorem lv_new {id out : Int} {l : List Int} {r : Int} (h : NewE id out l r 0) : LvI (newK id out r) l ⟨0, 0, 0, 0⟩ := ⟨of_rt (new_rt h).1, rfl, rfl, rfl, rfl, rfl⟩
end Go.Proofs.Ytpeoabopeihadaa.Mn
