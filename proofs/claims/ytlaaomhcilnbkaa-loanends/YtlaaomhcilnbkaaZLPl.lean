/- What a step makes of a loan, plain. -/
import Derived.Test.YtlaaomhcilnbkaaZLSx
set_option linter.unusedVariables false
set_option linter.unusedSimpArgs false
set_option linter.unusedSectionVars false
namespace Go.Proofs.Ytlaaomhcilnbkaa.Mn
open Go.RowKit
structure Mv where
  i : Int
  p : Int
  w : Int
  r : Int
structure Dn where
  K : Ln
  l : List Int
  m : Mv
def zLn : Ln := ⟨0, 0, 0, 0, 0, 0, 0, 0, 0, 0, 0, 0⟩
def zD : Dn := ⟨zLn, [], ⟨0, 0, 0, 0⟩⟩
/-- Is the loan paid off by what is received? -/
def recvB (L : Ln) (e : Bool) (p : Int) : Bool := e && decide (L.due - p ≤ 0)
def recvK (L : Ln) (e : Bool) (p J : Int) : Ln :=
  if recvB L e p = true then { L with st := 2, due := 0, be := 0, gr := L.gr + (p - L.gr - p), inc := L.inc + (p - L.gr), got := L.got + p }
  else { L with due := L.due - p, be := if L.due - p ≤ 0 then 0 else L.be, gr := L.gr + (J - p), inc := L.inc + J, got := L.got + p }
def recvJ (L : Ln) (e : Bool) (p J : Int) : Int := if recvB L e p = true then p - L.gr else J
def stepL (L : Ln) (x : Int) : Ln := { L with due := L.due + x, be := min (L.be + 1) 600 }
def wrK (L : Ln) (p : Int) : Ln := if L.gr - p = 0 then { L with gr := L.gr - p, wri := L.wri + p, st := 3, due := 0, be := 0 } else { L with gr := L.gr - p, wri := L.wri + p }
/-- What is done: 1 Step, 2 Pay, 3 Write, else Recover. -/
def doS (k : Nat) (L : Ln) (l : List Int) (p : Int) : Dn :=
  if k = 1 then ⟨recvK (stepL L (l.headD 0)) l.tail.isEmpty p (qI L.gr L.rt), l.tail, ⟨recvJ (stepL L (l.headD 0)) l.tail.isEmpty p (qI L.gr L.rt), p, 0, 0⟩⟩
  else if k = 2 then ⟨recvK L l.isEmpty p 0, l, ⟨recvJ L l.isEmpty p 0, p, 0, 0⟩⟩
  else if k = 3 then ⟨wrK L p, if L.gr - p = 0 then [] else l, ⟨0, 0, p, 0⟩⟩
  else ⟨{ L with rcv := L.rcv + p }, l, ⟨0, 0, 0, p⟩⟩
def chkS (k : Nat) (L : Ln) (l : List Int) (p : Int) : Int :=
  if k = 1 then chk1 L l p else if k = 2 then asksE L l 1 p 0 else if k = 3 then asksE L l 1 p 1 else asksE L l 3 p 1
def stepE (k : Nat) (L : Ln) (l : List Int) (p : Int) : Int :=
  if chkS k L l p = 0 then (if (doS k L l p).K.gr < 0 then 2 else if rightB (doS k L l p).K (doS k L l p).l = true then 0 else 3) else chkS k L l p
def stepR (k : Nat) (L : Ln) (l : List Int) (p : Int) : Dn := if stepE k L l p = 0 then doS k L l p else zD
/-- What is known of a loan that is right. -/
structure Rt (L : Ln) (l : List Int) : Prop where
  id : 0 ≤ L.id ∧ L.id ≤ 2147483647
  st : 1 ≤ L.st ∧ L.st ≤ 4
  be : 0 ≤ L.be ∧ L.be ≤ 600
  out : 1 ≤ L.out ∧ L.out ≤ 10000000000000
  rt : May L.rt
  gr : 0 ≤ L.gr ∧ L.gr ≤ 1125899906842624
  got : 0 ≤ L.got ∧ L.got ≤ 1125899906842624
  wri : 0 ≤ L.wri ∧ L.wri ≤ 1125899906842624
  rcv : 0 ≤ L.rcv ∧ L.rcv ≤ 1125899906842624
  due : -1125899906842624 ≤ L.due ∧ L.due ≤ 1125899906842624
  inc : -1125899906842624 ≤ L.inc ∧ L.inc ≤ 1125899906842624
  adj : -1125899906842624 ≤ L.adj ∧ L.adj ≤ 1125899906842624
  len : l.length ≤ 600
  amt : ∀ x ∈ l, 0 ≤ x ∧ x ≤ 10000000000000
  fin : L.st = 1 ∨ (L.gr = 0 ∧ L.due = 0 ∧ l = [])
  sum : L.gr = L.out + L.inc + L.adj - L.got - L.wri
theorem rt_of {L : Ln} {l : List Int} (h : rightB L l = true) : Rt L l := by
  unfold rightB mayBeB amtL sumB endB at h
  simp only [Bool.and_eq_true, Bool.or_eq_true, decide_eq_true_eq, List.all_eq_true] at h
  obtain ⟨⟨⟨⟨⟨h1, h2⟩, h3⟩, h4⟩, h5⟩, ⟨h6, h7⟩, ⟨⟨⟨⟨s1, s2⟩, s3⟩, s4⟩, ⟨s5, s6⟩, s7⟩, h8, h9⟩ := h
  refine ⟨inB_yes h1, inB_yes h2, inB_yes h3, inB_yes h4, ?_, inB_yes s1, inB_yes s2, inB_yes s3, inB_yes s4, inB_yes s5, inB_yes s6, inB_yes s7, h6, fun x hx => inB_yes (h7 x hx), h8.imp id (fun k => ⟨k.1, k.2.1, List.eq_nil_of_length_eq_zero k.2.2⟩), h9⟩
  unfold mayB at h5
  simpa [May] using h5
theorem of_rt {L : Ln} {l : List Int} (h : Rt L l) : rightB L l = true := by
  unfold rightB mayBeB amtL sumB endB
  simp only [Bool.and_eq_true, Bool.or_eq_true, decide_eq_true_eq, List.all_eq_true]
  exact ⟨⟨⟨⟨⟨inB_of h.id, inB_of h.st⟩, inB_of h.be⟩, inB_of h.out⟩, mayB_yes h.rt⟩, ⟨h.len, fun x hx => inB_of (h.amt x hx)⟩, ⟨⟨⟨⟨inB_of h.gr, inB_of h.got⟩, inB_of h.wri⟩, inB_of h.rcv⟩, ⟨inB_of h.due, inB_of h.inc⟩, inB_of h.adj⟩, h.fin.imp id (fun k => ⟨k.1, k.2.1, by rw [k.2.2]; rfl⟩), h.sum⟩
theorem asks0 {L : Ln} {l : List Int} {k p lo : Int} (h : asksE L l k p lo = 0) : Rt L l ∧ (lo ≤ p ∧ p ≤ 10000000000000) ∧ L.st = k := by
  unfold asksE at h
  split at h
  · next h1 =>
    simp only [Bool.and_eq_true] at h1
    split at h
    · next h2 => exact ⟨rt_of h1.1, inB_yes h1.2, h2⟩
    · cases h
  · cases h
theorem chk0 {L : Ln} {l : List Int} {p : Int} (h : chk1 L l p = 0) : (Rt L l ∧ (0 ≤ p ∧ p ≤ 10000000000000) ∧ L.st = 1) ∧ l ≠ [] := by
  unfold chk1 at h
  split at h
  · next h1 =>
    split at h
    · cases h
    · next h2 => exact ⟨asks0 h1, fun e => h2 (by rw [e]; rfl)⟩
  · next h1 => exact absurd h h1
end Go.Proofs.Ytlaaomhcilnbkaa.Mn
