/- What is handed to the solver, if the lone run returns at every tape: a number and a row of numbers, or too many. -/
import Derived.Test.YtpeoabopeihadaaNExt
import Derived.Test.YtpeoabopeihadaaNTri
import Derived.Test.YtpeoabopeihadaaNQJ
set_option linter.unusedVariables false
set_option linter.unusedSimpArgs false
set_option linter.unusedSectionVars false
set_option maxHeartbeats 2000000
namespace Go.Proofs.Ytpeoabopeihadaa.Sim
open Go Go.Conc
section
variable {P : Program} {ev : Operand → Value} {w : World} {d : Option Nat} {t : TypeId}
theorem halts_mul (hc : ev (.const (.int .i64 1)) = .int .i64 1) {X : Operand} {x : Value} (hx : ev X = x) (hn : ¬∃ n, x = .int .i64 n) : ∃ h w1, (execOp ev (Tri.op d (.binOp .mul 2 X (Tri.i64 1) 2) t)).run P w = .halt h w1 := by
 subst hx
 simp only [execOp, Tri.op, eqGuard, hc]
 cases e : ev X with
 | int k n =>
  have hk : k ≠ .i64 := fun h => hn ⟨n, by rw [e, h]⟩
  exact ⟨_, _, by simp [go_sem, binOp, hk]; exact ⟨rfl, rfl⟩⟩
 | _ => exact ⟨_, _, by simp [go_sem, binOp]; first | rfl | exact ⟨rfl, rfl⟩⟩
theorem runs_mul (hc : ev (.const (.int .i64 1)) = .int .i64 1) {X : Operand} {n : Int} (hx : ev X = .int .i64 n) : (execOp ev (Tri.op d (.binOp .mul 2 X (Tri.i64 1) 2) t)).run P w = .ok (.value (.int .i64 (IntKind.i64.wrap (n * 1)))) w := by
 simp [execOp, Tri.op, eqGuard, hc, hx, binOp, go_sem]
theorem runs_eql {X Y : Operand} {n m : Int} (hx : ev X = .int .i64 n) (hy : ev Y = .int .i64 m) : (execOp ev (Tri.op d (.binOp .eql 2 X Y 2) t)).run P w = .ok (.value (.bool (decide (n = m)))) w := by
 simp [execOp, Tri.op, eqGuard, hx, hy, binOp, go_sem]
 try rfl
theorem runs_cmp {X Y : Operand} {n m : Int} (hx : ev X = .int .i64 n) (hy : ev Y = .int .i64 m) : (execOp ev (Tri.op d (.binOp .gtr 3 X Y 3) t)).run P w = .ok (.value (.bool (decide (m < n)))) w ∧ (execOp ev (Tri.op d (.binOp .lss 3 X Y 3) t)).run P w = .ok (.value (.bool (decide (n < m)))) w := by
 constructor <;> simp [execOp, Tri.op, eqGuard, hx, hy, binOp, go_sem]
theorem runs_inc (hc : ev (.const (.int .i64 1)) = .int .i64 1) {X : Operand} {n : Int} (hx : ev X = .int .i64 n) : (execOp ev (Tri.op d (.binOp .add 3 X (Tri.i64 1) 3) t)).run P w = .ok (.value (.int .i64 (IntKind.i64.wrap (n + 1)))) w := by
 simp [execOp, Tri.op, eqGuard, hc, hx, binOp, go_sem]
theorem runs_move {X : Operand} {v : Value} (hx : ev X = v) : (execOp ev (Tri.op d (.move X) t)).run P w = .ok (.value v) w := by
 simp [execOp, Tri.op, hx, go_sem]
end
section
variable {ev : Operand → Value} {w : World} {d : Option Nat} {t : TypeId}
theorem und22 : (Tri Try.prog).underlying 22 = some (.slice 2) := Tri.und Try.underlying22
theorem size2 (w : World) : (_root_.Go.sizeOf 2).run (Tri Try.prog) w = .ok 1 w := by
 rw [Tri.sizeOf]
 simp [go_sem]
theorem runs_len {X : Operand} {ad : Option Addr} {ln cp : Nat} (hx : ev X = .slice ad ln cp) : (execOp ev (Tri.op d (.call { callee := .builtin .len, args := #[X], argTypes := #[22] }) t)).run (Tri Try.prog) w = .ok (.value (.int .i64 ln)) w := by
 simp [execOp, Tri.op, hx, go_sem, Builtin.len_, run_underlying und22]
theorem len_no {P : Program} (hu : P.underlying 22 = some (.slice 2)) {x : Value} (hn : ¬∃ ad ln cp, x = .slice ad ln cp) : ∃ h, (Builtin.len_ #[22] t #[x]).run P w = .halt h w := by
 cases x with
 | slice ad ln cp => exact absurd ⟨_, _, _, rfl⟩ hn
 | _ =>
  refine ⟨.stuck "len: string, array, pointer to array, slice, map or channel expected", ?_⟩
  simp [Builtin.len_, go_sem, run_underlying hu]
theorem halts_len {P : Program} (hu : P.underlying 22 = some (.slice 2)) {X : Operand} {x : Value} (hx : ev X = x) (hn : ¬∃ ad ln cp, x = .slice ad ln cp) : ∃ h w1, (execOp ev (Tri.op d (.call { callee := .builtin .len, args := #[X], argTypes := #[22] }) t)).run P w = .halt h w1 := by
 subst hx
 obtain ⟨h, e⟩ := len_no hu (t := t) (w := w) hn
 refine ⟨h, w, ?_⟩
 simp [execOp, Tri.op, go_sem, e]
theorem runs_index {X Y : Operand} {a : Addr} {ln cp j : Nat} (hx : ev X = .slice (some a) ln cp) (hy : ev Y = .int .i64 j) (hj : j < ln) : (execOp ev (Tri.op d (.indexAddr 22 X Y) t)).run (Tri Try.prog) w = .ok (.value (.pointer (some (a.add j)))) w := by
 simp [execOp, Tri.op, hx, hy, go_sem, Instr.indexAt, run_underlying und22, size2, hj]
theorem halts_index {X Y : Operand} {ln cp j : Nat} (hx : ev X = .slice none ln cp) (hy : ev Y = .int .i64 j) : ∃ h w1, (execOp ev (Tri.op d (.indexAddr 22 X Y) t)).run (Tri Try.prog) w = .halt h w1 := by
 cases e : (execOp ev (Tri.op d (.indexAddr 22 X Y) t)).run (Tri Try.prog) w with
 | halt h w1 => exact ⟨_, _, rfl⟩
 | ok v w1 =>
  exfalso
  simp [execOp, Tri.op, hx, hy, go_sem, Instr.indexAt, run_underlying und22, boundsPanic, runtimePanic] at e
  split at e <;> cases e
theorem runs_load {X : Operand} {a : Addr} (hx : ev X = .pointer (some a)) (hv : ∀ x y, w.heap[a.block]? ≠ some (.view x y)) : (∃ v, w.cell? a = some v ∧ (execOp ev (Tri.op d (.load 2 X) t)).run (Tri Try.prog) w = .ok (.value v) w) ∨ ∃ h w1, (execOp ev (Tri.op d (.load 2 X) t)).run (Tri Try.prog) w = .halt h w1 := by
 cases e : w.cell? a with
 | some v => exact .inl ⟨v, rfl, by simp [execOp, Tri.op, hx, go_sem, Instr.loadAt, loadVar, Tri.isAgg, e]⟩
 | none =>
  cases e2 : (execOp ev (Tri.op d (.load 2 X) t)).run (Tri Try.prog) w with
  | halt h w1 => exact .inr ⟨_, _, rfl⟩
  | ok v w1 =>
   exfalso
   have hf : ∃ h, World.farLoad (Tri Try.prog) w a (Mode.plain == Mode.atomic) = .error h := by
    unfold World.farLoad
    cases hb : w.heap[a.block]? with
    | none => exact ⟨_, rfl⟩
    | some o =>
     cases o with
     | view x y => exact absurd hb (hv x y)
     | _ => exact ⟨_, rfl⟩
   obtain ⟨h, hf⟩ := hf
   simp [execOp, Tri.op, hx, go_sem, Instr.loadAt, loadVar, Tri.isAgg, e, hf] at e2
end
end Go.Proofs.Ytpeoabopeihadaa.Sim
/- The walk of the solver's checks, and what it tells. -/
namespace Go.Proofs.Ytpeoabopeihadaa.Sim
open Go Go.Conc
open Go.Proofs.Ytpeoabopeihadaa.Mn (Row)
theorem stepG_refuse {P : Program} {main : Bool} {b : Frame} {a : Go.Act} {s : String} {k : List Item} {cs : List Frame} {w : World} : ∃ o, stepG P main (G (b.at a (.code (.refuse s) :: k)) cs) w = .ended o w #[] := ⟨_, by simp [G, stepG, stepG.exec, Frame.at]; rfl⟩
theorem tmT (a b : Value) : #[a, b] ++ Array.replicate (Tri.f15.ntmps - (#[a, b] : Array Value).size) undef = #[a, b, undef, undef, undef, undef, undef, undef, undef, undef, undef, undef, undef, undef, undef, undef, undef, undef, undef, undef, undef, undef, undef, undef, undef, undef, undef] := by kernel_rfl
abbrev EH (out : Int) (ad : Option Addr) (ln cp : Nat) (j : Nat) (a6 a7 a10 a11 a12 a13 a14 a15 a16 : Value) : Frame := (base 15).at ⟨#[.int .i64 out, .slice ad ln cp, undef, undef, undef, undef, a6, a7, .int .i64 j, .int .i64 ln, a10, a11, a12, a13, a14, a15, a16, undef, undef, undef, undef, undef, undef, undef, undef, undef, undef], []⟩ (.code Tri.check :: .inLoop Tri.check :: .inBlock 0 :: [.code Tri.rest])
section
variable [Glob] {Post : Value → Array Obj → Prop} {ss : List Frame} {w : World} {out : Int} {ad : Option Addr} {ln cp j : Nat} {x y a6 a7 a10 a11 a12 a13 a14 a15 a16 : Value}
theorem inv_noview {P : Program} {f : FuncId} {T : Array Value} {k : List Item} {a : Addr} (h : Inv P Post ⟨(base f).at ⟨T, []⟩ k, ss, w⟩) (hT : T.getD 1 undef = .slice (some a) ln cp) : ∀ x y, w.heap[a.block]? ≠ some (.view x y) := by
 intro x y e
 obtain ⟨H, p, b, bs, u, hg, hwr, ha, hs⟩ := h
 obtain ⟨f', xs, ys, k', m', e1, e2, e3, e4, e5, e6⟩ := ha
 have t1 : T = xs := congrArg Frame.tmps e1
 subst t1
 have hV := LR.getD e4 1 (V.undef p)
 rw [hT] at hV
 obtain ⟨n, hV⟩ := hV.split
 revert hV
 generalize ys.getD 1 undef = v
 intro hV
 cases v <;> simp only [VR] at hV
 rename_i a' l' c'
 have hO : OAR p (some a) a' := hV.1
 cases a' with
 | none => exact hO
 | some a' =>
  obtain ⟨o, o', h1, h2, h3⟩ := hwr.blk _ _ hO.1
  have h1 : w.heap[a.block]? = some o := h1
  rw [e] at h1
  obtain rfl := Option.some.inj h1
  rcases h3 with ⟨_, _, _, _, _, h3, _⟩ | ⟨_, _, _, h3, _⟩ <;> cases h3
set_option maxRecDepth 4000 in
theorem ext_in (hz : Zero (Tri Try.prog)) (hG : Glob.size = (Tri Try.prog).globals.size) (hc : Codes (Tri Try.prog)) (h : Inv (Tri Try.prog) Post ⟨Frame.enter (Tri Try.prog) 15 #[x, y] .normal, ss, w⟩) :
  ∃ out ad ln cp, x = .int .i64 out ∧ y = .slice ad ln cp ∧ (-9223372036854775808 ≤ out ∧ out ≤ 9223372036854775807) ∧ (600 < ln ∨ (ln ≤ 600 ∧ ∃ a6 a7 a10 a11 a12 a13 a14 a15 a16, Inv (Tri Try.prog) Post ⟨EH out ad ln cp 0 a6 a7 a10 a11 a12 a13 a14 a15 a16, ss, w⟩)) := by
 rw [enter_at _ Tri.func15 (show Tri.f15.body = some Tri.body from rfl), tmT] at h
 have h := inv_go hz hG hc h (stepG_seq)
 have h := inv_go hz hG hc h (stepG_region)
 have h : Inv _ _ ⟨(base 15).at ⟨#[x, y, undef, undef, undef, undef, undef, undef, undef, undef, undef, undef, undef, undef, undef, undef, undef, undef, undef, undef, undef, undef, undef, undef, undef, undef, undef], []⟩ (.inRegion _ [0, 1, 2, 3, 4] :: _), ss, w⟩ := h
 obtain ⟨out, rfl⟩ : ∃ out, x = .int .i64 out := Classical.byContradiction fun hne => by
  obtain ⟨hh, w1, hr⟩ := halts_mul (P := Tri Try.prog) (w := w) (d := some 6) (t := 2) (ev := Go.Act.eval ⟨#[x, y, undef, undef, undef, undef, undef, undef, undef, undef, undef, undef, undef, undef, undef, undef, undef, undef, undef, undef, undef, undef, undef, undef, undef, undef, undef], []⟩) (X := .tmp 0) rfl rfl hne
  exact inv_fine hz hG hc h rfl rfl hr
 have h := inv_val hz hG hc h (T' := #[.int .i64 out, y, undef, undef, undef, undef, .int .i64 (IntKind.i64.wrap (out * 1)), undef, undef, undef, undef, undef, undef, undef, undef, undef, undef, undef, undef, undef, undef, undef, undef, undef, undef, undef, undef]) rfl rfl rfl (runs_mul rfl rfl) (by kernel_rfl)
 have h := inv_val hz hG hc h (T' := #[.int .i64 out, y, undef, undef, undef, undef, .int .i64 (IntKind.i64.wrap (out * 1)), .bool (decide (out = IntKind.i64.wrap (out * 1))), undef, undef, undef, undef, undef, undef, undef, undef, undef, undef, undef, undef, undef, undef, undef, undef, undef, undef, undef]) rfl rfl rfl (runs_eql rfl rfl) (by kernel_rfl)
 have h := inv_val hz hG hc h (T' := #[.int .i64 out, y, undef, undef, undef, undef, .int .i64 (IntKind.i64.wrap (out * 1)), .bool (decide (out = IntKind.i64.wrap (out * 1))), .int .i64 0, undef, undef, undef, undef, undef, undef, undef, undef, undef, undef, undef, undef, undef, undef, undef, undef, undef, undef]) rfl rfl rfl (runs_move rfl) (by kernel_rfl)
 obtain ⟨ad, ln, cp, rfl⟩ : ∃ ad ln cp, y = .slice ad ln cp := Classical.byContradiction fun hne => by
  obtain ⟨hh, w1, hr⟩ := halts_len und22 (w := w) (d := some 9) (t := 3) (ev := Go.Act.eval ⟨#[.int .i64 out, y, undef, undef, undef, undef, .int .i64 (IntKind.i64.wrap (out * 1)), .bool (decide (out = IntKind.i64.wrap (out * 1))), .int .i64 0, undef, undef, undef, undef, undef, undef, undef, undef, undef, undef, undef, undef, undef, undef, undef, undef, undef, undef], []⟩) (X := .tmp 1) rfl hne
  exact inv_fine hz hG hc h rfl rfl hr
 have h := inv_val hz hG hc h (T' := #[.int .i64 out, .slice ad ln cp, undef, undef, undef, undef, .int .i64 (IntKind.i64.wrap (out * 1)), .bool (decide (out = IntKind.i64.wrap (out * 1))), .int .i64 0, .int .i64 ln, undef, undef, undef, undef, undef, undef, undef, undef, undef, undef, undef, undef, undef, undef, undef, undef, undef]) rfl rfl rfl (runs_len rfl) (by kernel_rfl)
 have h := inv_val hz hG hc h (T' := #[.int .i64 out, .slice ad ln cp, undef, undef, undef, undef, .int .i64 (IntKind.i64.wrap (out * 1)), .bool (decide (out = IntKind.i64.wrap (out * 1))), .int .i64 0, .int .i64 ln, .bool (decide ((600 : Int) < (ln : Int))), undef, undef, undef, undef, undef, undef, undef, undef, undef, undef, undef, undef, undef, undef, undef, undef]) rfl rfl rfl ((runs_cmp rfl rfl).1) (by kernel_rfl)
 have h := inv_go hz hG hc h (stepG_region_end)
 have h := inv_go hz hG hc h (stepG_seq)
 refine ⟨out, ad, ln, cp, rfl, rfl, ?_⟩
 cases hB : decide (out = IntKind.i64.wrap (out * 1)) with
 | false =>
  rw [hB] at h
  have h := inv_go hz hG hc h (stepG_cond (t := false) rfl)
  obtain ⟨o, e⟩ := stepG_refuse (P := Tri Try.prog) (main := true) (b := base 15) (a := ⟨#[.int .i64 out, .slice ad ln cp, undef, undef, undef, undef, .int .i64 (IntKind.i64.wrap (out * 1)), .bool false, .int .i64 0, .int .i64 ln, .bool (decide ((600 : Int) < (ln : Int))), undef, undef, undef, undef, undef, undef, undef, undef, undef, undef, undef, undef, undef, undef, undef, undef], []⟩) (s := "") (k := _) (cs := ss ++ [floor]) (w := w)
  exact (inv_ends hz hG hc h e).elim
 | true =>
  rw [hB] at h
  have e2 := of_decide_eq_true hB
  rw [IntKind.wrap_i64] at e2
  refine ⟨⟨by omega, by omega⟩, ?_⟩
  by_cases hl : 600 < ln
  ·exact .inl hl
  refine .inr ⟨by omega, ?_⟩
  rw [decide_eq_false (show ¬(600 : Int) < (ln : Int) by omega)] at h
  have h := inv_go hz hG hc h (stepG_cond (t := true) rfl)
  have h := inv_go hz hG hc h (stepG_skip)
  have h := inv_go hz hG hc h (stepG_seq)
  have h := inv_go hz hG hc h (stepG_cond (t := false) rfl)
  have h := inv_go hz hG hc h (stepG_skip)
  have h := inv_go hz hG hc h (stepG_seq)
  have h := inv_go hz hG hc h (stepG_block)
  have h := inv_go hz hG hc h (stepG_loop)
  exact ⟨_, _, _, _, _, _, _, _, _, h⟩
set_option maxRecDepth 4000 in
theorem ext_round (hz : Zero (Tri Try.prog)) (hG : Glob.size = (Tri Try.prog).globals.size) (hc : Codes (Tri Try.prog)) (hl : ln ≤ 600) (hj : j < ln) (h : Inv (Tri Try.prog) Post ⟨EH out ad ln cp j a6 a7 a10 a11 a12 a13 a14 a15 a16, ss, w⟩) :
  ∃ a n, ad = some a ∧ w.cell? (a.add j) = some (.int .i64 n) ∧ (-9223372036854775808 ≤ n ∧ n ≤ 9223372036854775807) ∧ ∃ b6 b7 b10 b11 b12 b13 b14 b15 b16, Inv (Tri Try.prog) Post ⟨EH out ad ln cp (j + 1) b6 b7 b10 b11 b12 b13 b14 b15 b16, ss, w⟩ := by
 have h := inv_go hz hG hc h (stepG_seq)
 have h := inv_go hz hG hc h (stepG_region)
 have h : Inv _ _ ⟨(base 15).at ⟨#[.int .i64 out, .slice ad ln cp, undef, undef, undef, undef, a6, a7, .int .i64 j, .int .i64 ln, a10, a11, a12, a13, a14, a15, a16, undef, undef, undef, undef, undef, undef, undef, undef, undef, undef], []⟩ (.inRegion _ [0] :: _), ss, w⟩ := h
 have h := inv_val hz hG hc h (T' := #[.int .i64 out, .slice ad ln cp, undef, undef, undef, undef, a6, a7, .int .i64 j, .int .i64 ln, a10, .bool (decide ((j : Int) < (ln : Int))), a12, a13, a14, a15, a16, undef, undef, undef, undef, undef, undef, undef, undef, undef, undef]) rfl rfl rfl ((runs_cmp rfl rfl).2) (by kernel_rfl)
 rw [decide_eq_true (show (j : Int) < (ln : Int) by omega)] at h
 have h := inv_go hz hG hc h (stepG_region_end)
 have h := inv_go hz hG hc h (stepG_seq)
 have h := inv_go hz hG hc h (stepG_cond (t := true) rfl)
 have h := inv_go hz hG hc h (stepG_skip)
 have h := inv_go hz hG hc h (stepG_seq)
 have h := inv_go hz hG hc h (stepG_region)
 have h : Inv _ _ ⟨(base 15).at ⟨#[.int .i64 out, .slice ad ln cp, undef, undef, undef, undef, a6, a7, .int .i64 j, .int .i64 ln, a10, .bool true, a12, a13, a14, a15, a16, undef, undef, undef, undef, undef, undef, undef, undef, undef, undef], []⟩ (.inRegion _ [0, 1, 2, 3] :: _), ss, w⟩ := h
 cases ad with
 | none =>
  obtain ⟨hh, w1, hr⟩ := halts_index (w := w) (d := some 12) (t := 0) (ev := Go.Act.eval ⟨#[.int .i64 out, .slice none ln cp, undef, undef, undef, undef, a6, a7, .int .i64 j, .int .i64 ln, a10, .bool true, a12, a13, a14, a15, a16, undef, undef, undef, undef, undef, undef, undef, undef, undef, undef], []⟩) (X := .tmp 1) (Y := .tmp 8) (ln := ln) (cp := cp) (j := j) rfl rfl
  exact (inv_fine hz hG hc h rfl rfl hr).elim
 | some a =>
  have hv := inv_noview (a := a) (ln := ln) (cp := cp) h rfl
  have h := inv_val hz hG hc h (T' := #[.int .i64 out, .slice (some a) ln cp, undef, undef, undef, undef, a6, a7, .int .i64 j, .int .i64 ln, a10, .bool true, .pointer (some (a.add j)), a13, a14, a15, a16, undef, undef, undef, undef, undef, undef, undef, undef, undef, undef]) rfl rfl rfl (runs_index rfl rfl hj) (by kernel_rfl)
  have hab : (a.add j).block = a.block := by
   unfold Addr.add
   split <;> rfl
  obtain ⟨v, hcv, hr⟩ | ⟨hh, w1, hr⟩ := runs_load (w := w) (d := some 13) (t := 2) (ev := Go.Act.eval ⟨#[.int .i64 out, .slice (some a) ln cp, undef, undef, undef, undef, a6, a7, .int .i64 j, .int .i64 ln, a10, .bool true, .pointer (some (a.add j)), a13, a14, a15, a16, undef, undef, undef, undef, undef, undef, undef, undef, undef, undef], []⟩) (X := .tmp 12) (a := a.add j) rfl (by rw [hab]; exact hv)
  case inr => exact (inv_fine hz hG hc h rfl rfl hr).elim
  have h := inv_val hz hG hc h (T' := #[.int .i64 out, .slice (some a) ln cp, undef, undef, undef, undef, a6, a7, .int .i64 j, .int .i64 ln, a10, .bool true, .pointer (some (a.add j)), v, a14, a15, a16, undef, undef, undef, undef, undef, undef, undef, undef, undef, undef]) rfl rfl rfl (hr) (by kernel_rfl)
  obtain ⟨n, rfl⟩ : ∃ n, v = .int .i64 n := Classical.byContradiction fun hne => by
   obtain ⟨hh, w1, hr⟩ := halts_mul (P := Tri Try.prog) (w := w) (d := some 14) (t := 2) (ev := Go.Act.eval ⟨#[.int .i64 out, .slice (some a) ln cp, undef, undef, undef, undef, a6, a7, .int .i64 j, .int .i64 ln, a10, .bool true, .pointer (some (a.add j)), v, a14, a15, a16, undef, undef, undef, undef, undef, undef, undef, undef, undef, undef], []⟩) (X := .tmp 13) rfl rfl hne
   exact inv_fine hz hG hc h rfl rfl hr
  have h := inv_val hz hG hc h (T' := #[.int .i64 out, .slice (some a) ln cp, undef, undef, undef, undef, a6, a7, .int .i64 j, .int .i64 ln, a10, .bool true, .pointer (some (a.add j)), .int .i64 n, .int .i64 (IntKind.i64.wrap (n * 1)), a15, a16, undef, undef, undef, undef, undef, undef, undef, undef, undef, undef]) rfl rfl rfl (runs_mul rfl rfl) (by kernel_rfl)
  have h := inv_val hz hG hc h (T' := #[.int .i64 out, .slice (some a) ln cp, undef, undef, undef, undef, a6, a7, .int .i64 j, .int .i64 ln, a10, .bool true, .pointer (some (a.add j)), .int .i64 n, .int .i64 (IntKind.i64.wrap (n * 1)), .bool (decide (n = IntKind.i64.wrap (n * 1))), a16, undef, undef, undef, undef, undef, undef, undef, undef, undef, undef]) rfl rfl rfl (runs_eql rfl rfl) (by kernel_rfl)
  have h := inv_go hz hG hc h (stepG_region_end)
  have h := inv_go hz hG hc h (stepG_seq)
  cases hB : decide (n = IntKind.i64.wrap (n * 1)) with
  | false =>
   rw [hB] at h
   have h := inv_go hz hG hc h (stepG_cond (t := false) rfl)
   obtain ⟨o, e⟩ := stepG_refuse (P := Tri Try.prog) (main := true) (b := base 15) (a := ⟨#[.int .i64 out, .slice (some a) ln cp, undef, undef, undef, undef, a6, a7, .int .i64 j, .int .i64 ln, a10, .bool true, .pointer (some (a.add j)), .int .i64 n, .int .i64 (IntKind.i64.wrap (n * 1)), .bool false, a16, undef, undef, undef, undef, undef, undef, undef, undef, undef, undef], []⟩) (s := "") (k := _) (cs := ss ++ [floor]) (w := w)
   exact (inv_ends hz hG hc h e).elim
  | true =>
   rw [hB] at h
   have h := inv_go hz hG hc h (stepG_cond (t := true) rfl)
   have h := inv_go hz hG hc h (stepG_skip)
   have h := inv_go hz hG hc h (stepG_region)
   have h : Inv _ _ ⟨(base 15).at ⟨#[.int .i64 out, .slice (some a) ln cp, undef, undef, undef, undef, a6, a7, .int .i64 j, .int .i64 ln, a10, .bool true, .pointer (some (a.add j)), .int .i64 n, .int .i64 (IntKind.i64.wrap (n * 1)), .bool true, a16, undef, undef, undef, undef, undef, undef, undef, undef, undef, undef], []⟩ (.inRegion _ [0, 1] :: _), ss, w⟩ := h
   have h := inv_val hz hG hc h (T' := #[.int .i64 out, .slice (some a) ln cp, undef, undef, undef, undef, a6, a7, .int .i64 j, .int .i64 ln, a10, .bool true, .pointer (some (a.add j)), .int .i64 n, .int .i64 (IntKind.i64.wrap (n * 1)), .bool true, .int .i64 (IntKind.i64.wrap ((j : Int) + 1)), undef, undef, undef, undef, undef, undef, undef, undef, undef, undef]) rfl rfl rfl (runs_inc rfl rfl) (by kernel_rfl)
   have h := inv_val hz hG hc h (T' := #[.int .i64 out, .slice (some a) ln cp, undef, undef, undef, undef, a6, a7, .int .i64 (IntKind.i64.wrap ((j : Int) + 1)), .int .i64 ln, a10, .bool true, .pointer (some (a.add j)), .int .i64 n, .int .i64 (IntKind.i64.wrap (n * 1)), .bool true, .int .i64 (IntKind.i64.wrap ((j : Int) + 1)), undef, undef, undef, undef, undef, undef, undef, undef, undef, undef]) rfl rfl rfl (runs_move rfl) (by kernel_rfl)
   have h := inv_go hz hG hc h (stepG_region_end)
   have h := inv_go hz hG hc h (stepG_inLoop)
   have e1 : IntKind.i64.wrap ((j : Int) + 1) = ((j + 1 : Nat) : Int) := by
    rw [IntKind.wrap_i64]
    omega
   rw [e1] at h
   have e2 := of_decide_eq_true hB
   rw [IntKind.wrap_i64] at e2
   exact ⟨a, n, rfl, hcv, ⟨by omega, by omega⟩, _, _, _, _, _, _, _, _, _, h⟩
theorem ext_all (hz : Zero (Tri Try.prog)) (hG : Glob.size = (Tri Try.prog).globals.size) (hc : Codes (Tri Try.prog)) (hl : ln ≤ 600) : ∀ j, j ≤ ln → (∃ a6 a7 a10 a11 a12 a13 a14 a15 a16, Inv (Tri Try.prog) Post ⟨EH out ad ln cp 0 a6 a7 a10 a11 a12 a13 a14 a15 a16, ss, w⟩) → (∃ a6 a7 a10 a11 a12 a13 a14 a15 a16, Inv (Tri Try.prog) Post ⟨EH out ad ln cp j a6 a7 a10 a11 a12 a13 a14 a15 a16, ss, w⟩) ∧ ∀ i, i < j → ∃ a n, ad = some a ∧ w.cell? (a.add i) = some (.int .i64 n) ∧ (-9223372036854775808 ≤ n ∧ n ≤ 9223372036854775807)
 | 0, _, h => ⟨h, fun i hi => absurd hi (Nat.not_lt_zero i)⟩
 | j + 1, hj, h => by
  obtain ⟨⟨_, _, _, _, _, _, _, _, _, h1⟩, h2⟩ := ext_all hz hG hc hl j (by omega) h
  obtain ⟨a, n, ha, hc1, hc2, hn⟩ := ext_round hz hG hc hl (by omega) h1
  refine ⟨hn, fun i hi => ?_⟩
  rcases Nat.lt_succ_iff_lt_or_eq.1 hi with hi | rfl
  ·exact h2 i hi
  ·exact ⟨a, n, ha, hc1, hc2⟩
theorem handed (hz : Zero (Tri Try.prog)) (hG : Glob.size = (Tri Try.prog).globals.size) (hc : Codes (Tri Try.prog)) (h : Inv (Tri Try.prog) Post ⟨Frame.enter (Tri Try.prog) 15 #[x, y] .normal, ss, w⟩) :
  ∃ out ad ln cp, x = .int .i64 out ∧ y = .slice ad ln cp ∧ (-9223372036854775808 ≤ out ∧ out ≤ 9223372036854775807) ∧ (600 < ln ∨ (ln ≤ 600 ∧ ∃ zs : List Int, zs.length = ln ∧ Row w y zs)) := by
 obtain ⟨out, ad, ln, cp, rfl, rfl, hio, h2⟩ := ext_in hz hG hc h
 clear h
 refine ⟨out, ad, ln, cp, rfl, rfl, hio, ?_⟩
 rcases h2 with h | ⟨hl, h⟩
 ·exact .inl h
 refine .inr ⟨hl, ?_⟩
 obtain ⟨_, hall⟩ := ext_all hz hG hc hl ln (Nat.le_refl _) h
 by_cases h0 : ln = 0
 ·subst h0
  exact ⟨[], rfl, .inl ⟨ad, cp, rfl, rfl⟩⟩
 obtain ⟨a, _, rfl, hc0, _⟩ := hall 0 (by omega)
 obtain ⟨b, off, sp⟩ := a
 have hsp : sp = none := by
  cases sp with
  | none => rfl
  | some q =>
   exfalso
   have hc0 : w.cell? ⟨b, off, some q⟩ = _ := hc0
   unfold World.cell? at hc0
   cases e : w.heap[b]? with
   | none => simp [e] at hc0
   | some o => cases o <;> simp [e] at hc0
 subst hsp
 have hcell : ∀ i, i < ln → ∃ n : Int, w.cell? ⟨b, off + i, none⟩ = some (.int .i64 n) ∧ (-9223372036854775808 ≤ n ∧ n ≤ 9223372036854775807) := fun i hi => by
  obtain ⟨a, n, ha, h1, h2⟩ := hall i hi
  obtain rfl := Option.some.inj ha
  refine ⟨n, ?_, h2⟩
  rw [← h1]
  unfold Addr.add
  split
  ·rename_i e
   rw [e]
   rfl
  ·rfl
 classical
 refine ⟨(List.range ln).map (fun i => if hi : i < ln then Classical.choose (hcell i hi) else 0), by simp, .inr ⟨b, off, cp, by simp, by simp; omega, ?_, fun i hi => ?_, fun z hz => ?_⟩⟩
 ·simp only [List.length_map, List.length_range]
  exact Nat.le_trans hl (by decide)
 ·have hi : i < ln := by simpa using hi
  have e : ((List.range ln).map (fun i => if hi : i < ln then Classical.choose (hcell i hi) else 0)).getD i 0 = Classical.choose (hcell i hi) := by
   simp [List.getD, hi]
  rw [e]
  exact (Classical.choose_spec (hcell i hi)).1
 ·obtain ⟨i, hi, rfl⟩ := List.mem_map.1 hz
  have hi : i < ln := by simpa using hi
  simp only [hi, dif_pos]
  have e := (Classical.choose_spec (hcell i hi)).2
  exact ⟨e.1, e.2⟩
end
end Go.Proofs.Ytpeoabopeihadaa.Sim
