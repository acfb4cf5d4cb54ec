/- The program once more, with a solver in one goroutine in the place of the one that starts two: what is shown of it is carried over to the true one later. -/
import Derived.Test.YtlaaomhcilnbkaaRows
set_option linter.unusedVariables false
set_option linter.unusedSimpArgs false
set_option linter.unusedSectionVars false
namespace Go.Proofs.Ytlaaomhcilnbkaa
open Go
/-- One operation. -/
def Tri.op (d : Option Nat) (x : Op) (t : TypeId) : Oper := { dst := d, op := x, type := t, pos := "", after := #[], guard := none }
abbrev Tri.i64 (n : Int) : Operand := .const (.int .i64 n)
/-- Each number is one of 64 bits; then the rate is sought by halves. -/
def Tri.check : Code :=
  (Code.region 2 #[Tri.op (some 11) (.binOp .lss 3 (.tmp 8) (.tmp 9) 3) 4] false).seq
    ((Code.cond (.tmp 11) .skip (.exit 0)).seq
    ((Code.region 3 #[Tri.op (some 12) (.indexAddr 22 (.tmp 1) (.tmp 8)) 0, Tri.op (some 13) (.load 2 (.tmp 12)) 2, Tri.op (some 14) (.binOp .mul 2 (.tmp 13) (Tri.i64 1) 2) 2, Tri.op (some 15) (.binOp .eql 2 (.tmp 13) (.tmp 14) 2) 4] false).seq
    ((Code.cond (.tmp 15) .skip (.refuse "")).seq
    (Code.region 4 #[Tri.op (some 16) (.binOp .add 3 (.tmp 8) (Tri.i64 1) 3) 3, Tri.op (some 8) (.move (.tmp 16)) 3] false))))
def Tri.rest : Code :=
  (Code.region 5 #[Tri.op (some 17) (.call { callee := .value (.func 42), args := #[.tmp 0, .tmp 1], argTypes := #[2, 22] }) 4] false).seq
  ((Code.cond (.tmp 17) .skip ((Code.region 6 #[Tri.op (some 4) (.assign (Tri.i64 0)) 2, Tri.op (some 5) (.assign (Tri.i64 2)) 26] false).seq .ret)).seq
  ((Code.region 7 #[Tri.op (some 18) (.call { callee := .value (.func 45), args := #[.tmp 0, .tmp 1, Tri.i64 (-990000000000)], argTypes := #[2, 22, 2] }) 4] false).seq
  ((Code.cond (.tmp 18) .skip ((Code.region 8 #[Tri.op (some 4) (.assign (Tri.i64 0)) 2, Tri.op (some 5) (.assign (Tri.i64 13)) 26] false).seq .ret)).seq
  ((Code.region 9 #[Tri.op (some 19) (.call { callee := .value (.func 45), args := #[.tmp 0, .tmp 1, Tri.i64 10000000000000], argTypes := #[2, 22, 2] }) 4] false).seq
  ((Code.cond (.tmp 19) ((Code.region 10 #[Tri.op (some 4) (.assign (Tri.i64 0)) 2, Tri.op (some 5) (.assign (Tri.i64 13)) 26] false).seq .ret) .skip).seq
  ((Code.region 11 #[Tri.op (some 20) (.move (Tri.i64 (-990000000000))) 2, Tri.op (some 21) (.move (Tri.i64 10000000000000)) 2] false).seq
  ((Code.block 1 (Code.loop
    ((Code.region 12 #[Tri.op (some 22) (.binOp .sub 2 (.tmp 21) (.tmp 20) 2) 2, Tri.op (some 23) (.binOp .gtr 2 (.tmp 22) (Tri.i64 1) 2) 4] false).seq
    ((Code.cond (.tmp 23) .skip (.exit 1)).seq
    ((Code.region 13 #[Tri.op (some 24) (.binOp .quo 2 (.tmp 22) (Tri.i64 2) 2) 2, Tri.op (some 25) (.binOp .add 2 (.tmp 20) (.tmp 24) 2) 2, Tri.op (some 26) (.call { callee := .value (.func 45), args := #[.tmp 0, .tmp 1, .tmp 25], argTypes := #[2, 22, 2] }) 4] false).seq
    (Code.cond (.tmp 26) (Code.region 14 #[Tri.op (some 20) (.move (.tmp 25)) 2] false) (Code.region 15 #[Tri.op (some 21) (.move (.tmp 25)) 2] false))))))).seq
  ((Code.region 16 #[Tri.op (some 4) (.assign (.tmp 20)) 2, Tri.op (some 5) (.assign (Tri.i64 0)) 26] false).seq .ret))))))))
def Tri.body : Code :=
  (Code.region 0 #[Tri.op (some 6) (.binOp .mul 2 (.tmp 0) (Tri.i64 1) 2) 2, Tri.op (some 7) (.binOp .eql 2 (.tmp 0) (.tmp 6) 2) 4, Tri.op (some 8) (.move (Tri.i64 0)) 3, Tri.op (some 9) (.call { callee := .builtin .len, args := #[.tmp 1], argTypes := #[22] }) 3, Tri.op (some 10) (.binOp .gtr 3 (.tmp 9) (Tri.i64 600) 3) 4] false).seq
  ((Code.cond (.tmp 7) .skip (.refuse "")).seq
  ((Code.cond (.tmp 10) ((Code.region 1 #[Tri.op (some 4) (.assign (Tri.i64 0)) 2, Tri.op (some 5) (.assign (Tri.i64 2)) 26] false).seq .ret) .skip).seq
  ((Code.block 0 (Code.loop Tri.check)).seq Tri.rest)))
def Tri.f16 : Func := { name := "Solve", origin := "", targs := #[], params := #[2, 22], resultTypes := #[2, 26], nfree := 0, ntmps := 27, results := #[.tmp 4, .tmp 5], body := some Tri.body, norace := false, file := "", endLine := 0, tmpNames := #[] }
/-- The program with that solver. -/
def Tri (P : Program) : Program := { P with funcs := P.funcs.setIfInBounds 16 Tri.f16 }
theorem Tri.nine (P : Program) (h : 16 < P.funcs.size) : (Tri P).funcs[16]? = some Tri.f16 := by
  unfold Tri
  exact Array.getElem?_setIfInBounds_self_of_lt h
theorem Tri.func (P : Program) {n : Nat} (h : n ≠ 16) : (Tri P).funcs[n]? = P.funcs[n]? := by
  unfold Tri
  exact Array.getElem?_setIfInBounds_ne (fun e => h e.symm)
theorem lt_of_get {xs : Array Func} {n : Nat} {f : Func} (h : xs[n]? = some f) : n < xs.size := (Array.getElem?_eq_some_iff.1 h).1
theorem Tri.func16 : (Tri Try.prog).funcs[16]? = some Tri.f16 := Tri.nine _ (lt_of_get Try.func16)
theorem Tri.at {n : Nat} {f : Func} (h : n ≠ 16) (e : Try.prog.funcs[n]? = some f) : (Tri Try.prog).funcs[n]? = some f := (Tri.func _ h).trans e
theorem Tri.ntmps16 : Tri.f16.ntmps = 27 := rfl
theorem Tri.results16 : Tri.f16.results = #[.tmp 4, .tmp 5] := rfl
theorem Tri.info (P : Program) (t : TypeId) : (Tri P).info? t = P.info? t := rfl
theorem Tri.underlying (P : Program) (t : TypeId) : (Tri P).underlying t = P.underlying t := rfl
theorem Tri.und {t : TypeId} {d : Option TypeDesc} (h : Try.prog.underlying t = d) : (Tri Try.prog).underlying t = d := (Tri.underlying _ t).trans h
theorem Tri.typeInfo (P : Program) (t : TypeId) (w : World) : (_root_.Go.typeInfo t).run (Tri P) w = (_root_.Go.typeInfo t).run P w := by
  simp only [_root_.Go.typeInfo, program, bind, Sem.bind, Sem.run, Tri.info]
  cases P.info? t <;> rfl
theorem Tri.sizeOf (P : Program) (t : TypeId) (w : World) : (_root_.Go.sizeOf t).run (Tri P) w = (_root_.Go.sizeOf t).run P w := by
  simp only [_root_.Go.sizeOf, _root_.Go.typeInfo, program, bind, Sem.bind, Sem.run, Tri.info]
  cases P.info? t <;> rfl
theorem Tri.runUnderlying (P : Program) (t : TypeId) (w : World) : (_root_.Go.underlying t).run (Tri P) w = (_root_.Go.underlying t).run P w := by
  simp only [_root_.Go.underlying, program, bind, Sem.bind, Sem.run, Tri.underlying]
  cases P.underlying t <;> rfl
theorem Tri.isAgg (P : Program) (t : TypeId) (w : World) : (_root_.Go.isAgg t).run (Tri P) w = (_root_.Go.isAgg t).run P w := by
  simp only [_root_.Go.isAgg, _root_.Go.underlying, program, bind, Sem.bind, Sem.run, Tri.underlying]
  cases h : P.underlying t with
  | none => rfl
  | some d => cases d <;> rfl
theorem Tri.zeroValue (P : Program) (t : TypeId) (w : World) : (_root_.Go.zeroValue t).run (Tri P) w = (_root_.Go.zeroValue t).run P w := by
  simp only [_root_.Go.zeroValue, _root_.Go.typeInfo, program, bind, Sem.bind, Sem.run, Tri.info]
  cases h : P.info? t with
  | none => rfl
  | some i => cases h2 : i.zero <;> simp only [Sem.bind, pure, h2] <;> rfl
theorem Tri.depth (P : Program) : (Tri P).depth = P.depth := rfl
theorem Tri.cutTypes (P : Program) : (Tri P).cutTypes = P.cutTypes := rfl
theorem Tri.underlyingId (P : Program) (t : TypeId) : (Tri P).underlyingId t = P.underlyingId t := rfl
theorem Tri.alike (P : Program) : ∀ (d : Nat) (t u : TypeId), (Tri P).alikeButTags d t u = P.alikeButTags d t u := by
  intro d
  induction d with
  | zero => intro t u; rfl
  | succ d ih => intro t u; simp only [Program.alikeButTags, Tri.info, ih]
theorem Tri.stoodInHeld (P : Program) (t : TypeId) : (Tri P).stoodInHeld t = P.stoodInHeld t := by
  simp only [Program.stoodInHeld, Program.stoodInAs, Tri.cutTypes, Tri.underlying, Tri.info, Tri.underlyingId, Tri.alike, Tri.depth]
theorem Tri.eqGuardType (P : Program) : ∀ (d : Nat) (t : TypeId), (Tri P).eqGuardType d t = P.eqGuardType d t := by
  intro d
  induction d with
  | zero => intro t; rfl
  | succ d ih => intro t; simp only [Program.eqGuardType, Tri.underlying, ih]
theorem Tri.callOf {n : FuncId} {f : Func} (h9 : n ≠ 16) (e : Try.prog.funcs[n]? = some f) (hb : f.body.isNone = false) (hn : (f.name == "runtime.NumGoroutine") = false) (args : Array Value) (w : World) : (_root_.Go.callFunc n args).run (Tri Try.prog) w = .ok (.enter n args) w := by
  simp only [_root_.Go.callFunc, program, bind, Sem.bind, Sem.run]
  rw [Tri.func Try.prog h9, e]
  simp only [hb, hn, Bool.false_eq_true, if_false]
  rfl
theorem Tri.call16 (args : Array Value) (w : World) : (_root_.Go.callFunc 16 args).run (Tri Try.prog) w = .ok (.enter 16 args) w := by
  simp only [_root_.Go.callFunc, program, bind, Sem.bind, Sem.run]
  rw [Tri.func16]
  rfl
theorem Tri.call3 (args : Array Value) (w : World) : (_root_.Go.callFunc 3 args).run (Tri Try.prog) w = .ok (.enter 3 args) w := Tri.callOf (by decide) Try.func3 rfl (by kernel_rfl) args w
theorem Tri.call4 (args : Array Value) (w : World) : (_root_.Go.callFunc 4 args).run (Tri Try.prog) w = .ok (.enter 4 args) w := Tri.callOf (by decide) Try.func4 rfl (by kernel_rfl) args w
theorem Tri.call5 (args : Array Value) (w : World) : (_root_.Go.callFunc 5 args).run (Tri Try.prog) w = .ok (.enter 5 args) w := Tri.callOf (by decide) Try.func5 rfl (by kernel_rfl) args w
theorem Tri.call6 (args : Array Value) (w : World) : (_root_.Go.callFunc 6 args).run (Tri Try.prog) w = .ok (.enter 6 args) w := Tri.callOf (by decide) Try.func6 rfl (by kernel_rfl) args w
theorem Tri.call7 (args : Array Value) (w : World) : (_root_.Go.callFunc 7 args).run (Tri Try.prog) w = .ok (.enter 7 args) w := Tri.callOf (by decide) Try.func7 rfl (by kernel_rfl) args w
theorem Tri.call8 (args : Array Value) (w : World) : (_root_.Go.callFunc 8 args).run (Tri Try.prog) w = .ok (.enter 8 args) w := Tri.callOf (by decide) Try.func8 rfl (by kernel_rfl) args w
theorem Tri.call9 (args : Array Value) (w : World) : (_root_.Go.callFunc 9 args).run (Tri Try.prog) w = .ok (.enter 9 args) w := Tri.callOf (by decide) Try.func9 rfl (by kernel_rfl) args w
theorem Tri.call10 (args : Array Value) (w : World) : (_root_.Go.callFunc 10 args).run (Tri Try.prog) w = .ok (.enter 10 args) w := Tri.callOf (by decide) Try.func10 rfl (by kernel_rfl) args w
theorem Tri.call11 (args : Array Value) (w : World) : (_root_.Go.callFunc 11 args).run (Tri Try.prog) w = .ok (.enter 11 args) w := Tri.callOf (by decide) Try.func11 rfl (by kernel_rfl) args w
theorem Tri.call12 (args : Array Value) (w : World) : (_root_.Go.callFunc 12 args).run (Tri Try.prog) w = .ok (.enter 12 args) w := Tri.callOf (by decide) Try.func12 rfl (by kernel_rfl) args w
theorem Tri.call13 (args : Array Value) (w : World) : (_root_.Go.callFunc 13 args).run (Tri Try.prog) w = .ok (.enter 13 args) w := Tri.callOf (by decide) Try.func13 rfl (by kernel_rfl) args w
theorem Tri.call14 (args : Array Value) (w : World) : (_root_.Go.callFunc 14 args).run (Tri Try.prog) w = .ok (.enter 14 args) w := Tri.callOf (by decide) Try.func14 rfl (by kernel_rfl) args w
theorem Tri.call15 (args : Array Value) (w : World) : (_root_.Go.callFunc 15 args).run (Tri Try.prog) w = .ok (.enter 15 args) w := Tri.callOf (by decide) Try.func15 rfl (by kernel_rfl) args w
theorem Tri.call17 (args : Array Value) (w : World) : (_root_.Go.callFunc 17 args).run (Tri Try.prog) w = .ok (.enter 17 args) w := Tri.callOf (by decide) Try.func17 rfl (by kernel_rfl) args w
theorem Tri.call18 (args : Array Value) (w : World) : (_root_.Go.callFunc 18 args).run (Tri Try.prog) w = .ok (.enter 18 args) w := Tri.callOf (by decide) Try.func18 rfl (by kernel_rfl) args w
theorem Tri.call19 (args : Array Value) (w : World) : (_root_.Go.callFunc 19 args).run (Tri Try.prog) w = .ok (.enter 19 args) w := Tri.callOf (by decide) Try.func19 rfl (by kernel_rfl) args w
theorem Tri.call20 (args : Array Value) (w : World) : (_root_.Go.callFunc 20 args).run (Tri Try.prog) w = .ok (.enter 20 args) w := Tri.callOf (by decide) Try.func20 rfl (by kernel_rfl) args w
theorem Tri.call21 (args : Array Value) (w : World) : (_root_.Go.callFunc 21 args).run (Tri Try.prog) w = .ok (.enter 21 args) w := Tri.callOf (by decide) Try.func21 rfl (by kernel_rfl) args w
theorem Tri.call22 (args : Array Value) (w : World) : (_root_.Go.callFunc 22 args).run (Tri Try.prog) w = .ok (.enter 22 args) w := Tri.callOf (by decide) Try.func22 rfl (by kernel_rfl) args w
theorem Tri.call23 (args : Array Value) (w : World) : (_root_.Go.callFunc 23 args).run (Tri Try.prog) w = .ok (.enter 23 args) w := Tri.callOf (by decide) Try.func23 rfl (by kernel_rfl) args w
theorem Tri.call24 (args : Array Value) (w : World) : (_root_.Go.callFunc 24 args).run (Tri Try.prog) w = .ok (.enter 24 args) w := Tri.callOf (by decide) Try.func24 rfl (by kernel_rfl) args w
theorem Tri.call25 (args : Array Value) (w : World) : (_root_.Go.callFunc 25 args).run (Tri Try.prog) w = .ok (.enter 25 args) w := Tri.callOf (by decide) Try.func25 rfl (by kernel_rfl) args w
theorem Tri.call26 (args : Array Value) (w : World) : (_root_.Go.callFunc 26 args).run (Tri Try.prog) w = .ok (.enter 26 args) w := Tri.callOf (by decide) Try.func26 rfl (by kernel_rfl) args w
theorem Tri.call27 (args : Array Value) (w : World) : (_root_.Go.callFunc 27 args).run (Tri Try.prog) w = .ok (.enter 27 args) w := Tri.callOf (by decide) Try.func27 rfl (by kernel_rfl) args w
theorem Tri.call28 (args : Array Value) (w : World) : (_root_.Go.callFunc 28 args).run (Tri Try.prog) w = .ok (.enter 28 args) w := Tri.callOf (by decide) Try.func28 rfl (by kernel_rfl) args w
theorem Tri.call29 (args : Array Value) (w : World) : (_root_.Go.callFunc 29 args).run (Tri Try.prog) w = .ok (.enter 29 args) w := Tri.callOf (by decide) Try.func29 rfl (by kernel_rfl) args w
theorem Tri.call30 (args : Array Value) (w : World) : (_root_.Go.callFunc 30 args).run (Tri Try.prog) w = .ok (.enter 30 args) w := Tri.callOf (by decide) Try.func30 rfl (by kernel_rfl) args w
theorem Tri.call31 (args : Array Value) (w : World) : (_root_.Go.callFunc 31 args).run (Tri Try.prog) w = .ok (.enter 31 args) w := Tri.callOf (by decide) Try.func31 rfl (by kernel_rfl) args w
theorem Tri.call32 (args : Array Value) (w : World) : (_root_.Go.callFunc 32 args).run (Tri Try.prog) w = .ok (.enter 32 args) w := Tri.callOf (by decide) Try.func32 rfl (by kernel_rfl) args w
theorem Tri.call33 (args : Array Value) (w : World) : (_root_.Go.callFunc 33 args).run (Tri Try.prog) w = .ok (.enter 33 args) w := Tri.callOf (by decide) Try.func33 rfl (by kernel_rfl) args w
theorem Tri.call34 (args : Array Value) (w : World) : (_root_.Go.callFunc 34 args).run (Tri Try.prog) w = .ok (.enter 34 args) w := Tri.callOf (by decide) Try.func34 rfl (by kernel_rfl) args w
theorem Tri.call35 (args : Array Value) (w : World) : (_root_.Go.callFunc 35 args).run (Tri Try.prog) w = .ok (.enter 35 args) w := Tri.callOf (by decide) Try.func35 rfl (by kernel_rfl) args w
theorem Tri.call36 (args : Array Value) (w : World) : (_root_.Go.callFunc 36 args).run (Tri Try.prog) w = .ok (.enter 36 args) w := Tri.callOf (by decide) Try.func36 rfl (by kernel_rfl) args w
theorem Tri.call37 (args : Array Value) (w : World) : (_root_.Go.callFunc 37 args).run (Tri Try.prog) w = .ok (.enter 37 args) w := Tri.callOf (by decide) Try.func37 rfl (by kernel_rfl) args w
theorem Tri.call38 (args : Array Value) (w : World) : (_root_.Go.callFunc 38 args).run (Tri Try.prog) w = .ok (.enter 38 args) w := Tri.callOf (by decide) Try.func38 rfl (by kernel_rfl) args w
theorem Tri.call39 (args : Array Value) (w : World) : (_root_.Go.callFunc 39 args).run (Tri Try.prog) w = .ok (.enter 39 args) w := Tri.callOf (by decide) Try.func39 rfl (by kernel_rfl) args w
theorem Tri.call40 (args : Array Value) (w : World) : (_root_.Go.callFunc 40 args).run (Tri Try.prog) w = .ok (.enter 40 args) w := Tri.callOf (by decide) Try.func40 rfl (by kernel_rfl) args w
theorem Tri.call41 (args : Array Value) (w : World) : (_root_.Go.callFunc 41 args).run (Tri Try.prog) w = .ok (.enter 41 args) w := Tri.callOf (by decide) Try.func41 rfl (by kernel_rfl) args w
theorem Tri.call42 (args : Array Value) (w : World) : (_root_.Go.callFunc 42 args).run (Tri Try.prog) w = .ok (.enter 42 args) w := Tri.callOf (by decide) Try.func42 rfl (by kernel_rfl) args w
theorem Tri.call43 (args : Array Value) (w : World) : (_root_.Go.callFunc 43 args).run (Tri Try.prog) w = .ok (.enter 43 args) w := Tri.callOf (by decide) Try.func43 rfl (by kernel_rfl) args w
theorem Tri.call44 (args : Array Value) (w : World) : (_root_.Go.callFunc 44 args).run (Tri Try.prog) w = .ok (.enter 44 args) w := Tri.callOf (by decide) Try.func44 rfl (by kernel_rfl) args w
theorem Tri.call45 (args : Array Value) (w : World) : (_root_.Go.callFunc 45 args).run (Tri Try.prog) w = .ok (.enter 45 args) w := Tri.callOf (by decide) Try.func45 rfl (by kernel_rfl) args w
theorem Tri.call46 (args : Array Value) (w : World) : (_root_.Go.callFunc 46 args).run (Tri Try.prog) w = .ok (.enter 46 args) w := Tri.callOf (by decide) Try.func46 rfl (by kernel_rfl) args w
theorem Tri.call47 (args : Array Value) (w : World) : (_root_.Go.callFunc 47 args).run (Tri Try.prog) w = .ok (.enter 47 args) w := Tri.callOf (by decide) Try.func47 rfl (by kernel_rfl) args w
theorem Tri.call48 (args : Array Value) (w : World) : (_root_.Go.callFunc 48 args).run (Tri Try.prog) w = .ok (.enter 48 args) w := Tri.callOf (by decide) Try.func48 rfl (by kernel_rfl) args w
theorem Tri.call49 (args : Array Value) (w : World) : (_root_.Go.callFunc 49 args).run (Tri Try.prog) w = .ok (.enter 49 args) w := Tri.callOf (by decide) Try.func49 rfl (by kernel_rfl) args w
theorem Tri.call50 (args : Array Value) (w : World) : (_root_.Go.callFunc 50 args).run (Tri Try.prog) w = .ok (.enter 50 args) w := Tri.callOf (by decide) Try.func50 rfl (by kernel_rfl) args w
theorem Tri.call51 (args : Array Value) (w : World) : (_root_.Go.callFunc 51 args).run (Tri Try.prog) w = .ok (.enter 51 args) w := Tri.callOf (by decide) Try.func51 rfl (by kernel_rfl) args w
theorem Tri.call52 (args : Array Value) (w : World) : (_root_.Go.callFunc 52 args).run (Tri Try.prog) w = .ok (.enter 52 args) w := Tri.callOf (by decide) Try.func52 rfl (by kernel_rfl) args w
theorem Tri.call53 (args : Array Value) (w : World) : (_root_.Go.callFunc 53 args).run (Tri Try.prog) w = .ok (.enter 53 args) w := Tri.callOf (by decide) Try.func53 rfl (by kernel_rfl) args w
theorem Tri.call54 (args : Array Value) (w : World) : (_root_.Go.callFunc 54 args).run (Tri Try.prog) w = .ok (.enter 54 args) w := Tri.callOf (by decide) Try.func54 rfl (by kernel_rfl) args w
theorem Tri.call55 (args : Array Value) (w : World) : (_root_.Go.callFunc 55 args).run (Tri Try.prog) w = .ok (.enter 55 args) w := Tri.callOf (by decide) Try.func55 rfl (by kernel_rfl) args w
theorem Tri.call56 (args : Array Value) (w : World) : (_root_.Go.callFunc 56 args).run (Tri Try.prog) w = .ok (.enter 56 args) w := Tri.callOf (by decide) Try.func56 rfl (by kernel_rfl) args w
theorem Tri.call57 (args : Array Value) (w : World) : (_root_.Go.callFunc 57 args).run (Tri Try.prog) w = .ok (.enter 57 args) w := Tri.callOf (by decide) Try.func57 rfl (by kernel_rfl) args w
theorem Tri.call58 (args : Array Value) (w : World) : (_root_.Go.callFunc 58 args).run (Tri Try.prog) w = .ok (.enter 58 args) w := Tri.callOf (by decide) Try.func58 rfl (by kernel_rfl) args w
theorem Tri.call59 (args : Array Value) (w : World) : (_root_.Go.callFunc 59 args).run (Tri Try.prog) w = .ok (.enter 59 args) w := Tri.callOf (by decide) Try.func59 rfl (by kernel_rfl) args w
theorem Tri.call60 (args : Array Value) (w : World) : (_root_.Go.callFunc 60 args).run (Tri Try.prog) w = .ok (.enter 60 args) w := Tri.callOf (by decide) Try.func60 rfl (by kernel_rfl) args w
theorem Tri.call61 (args : Array Value) (w : World) : (_root_.Go.callFunc 61 args).run (Tri Try.prog) w = .ok (.enter 61 args) w := Tri.callOf (by decide) Try.func61 rfl (by kernel_rfl) args w
theorem Tri.call62 (args : Array Value) (w : World) : (_root_.Go.callFunc 62 args).run (Tri Try.prog) w = .ok (.enter 62 args) w := Tri.callOf (by decide) Try.func62 rfl (by kernel_rfl) args w
theorem Tri.call63 (args : Array Value) (w : World) : (_root_.Go.callFunc 63 args).run (Tri Try.prog) w = .ok (.enter 63 args) w := Tri.callOf (by decide) Try.func63 rfl (by kernel_rfl) args w
theorem Tri.call64 (args : Array Value) (w : World) : (_root_.Go.callFunc 64 args).run (Tri Try.prog) w = .ok (.enter 64 args) w := Tri.callOf (by decide) Try.func64 rfl (by kernel_rfl) args w
theorem Tri.call65 (args : Array Value) (w : World) : (_root_.Go.callFunc 65 args).run (Tri Try.prog) w = .ok (.enter 65 args) w := Tri.callOf (by decide) Try.func65 rfl (by kernel_rfl) args w
theorem Tri.call66 (args : Array Value) (w : World) : (_root_.Go.callFunc 66 args).run (Tri Try.prog) w = .ok (.enter 66 args) w := Tri.callOf (by decide) Try.func66 rfl (by kernel_rfl) args w
theorem Tri.call67 (args : Array Value) (w : World) : (_root_.Go.callFunc 67 args).run (Tri Try.prog) w = .ok (.enter 67 args) w := Tri.callOf (by decide) Try.func67 rfl (by kernel_rfl) args w
theorem Tri.call68 (args : Array Value) (w : World) : (_root_.Go.callFunc 68 args).run (Tri Try.prog) w = .ok (.enter 68 args) w := Tri.callOf (by decide) Try.func68 rfl (by kernel_rfl) args w
theorem Tri.call69 (args : Array Value) (w : World) : (_root_.Go.callFunc 69 args).run (Tri Try.prog) w = .ok (.enter 69 args) w := Tri.callOf (by decide) Try.func69 rfl (by kernel_rfl) args w
theorem Tri.call70 (args : Array Value) (w : World) : (_root_.Go.callFunc 70 args).run (Tri Try.prog) w = .ok (.enter 70 args) w := Tri.callOf (by decide) Try.func70 rfl (by kernel_rfl) args w
theorem Tri.call71 (args : Array Value) (w : World) : (_root_.Go.callFunc 71 args).run (Tri Try.prog) w = .ok (.enter 71 args) w := Tri.callOf (by decide) Try.func71 rfl (by kernel_rfl) args w
theorem Tri.call72 (args : Array Value) (w : World) : (_root_.Go.callFunc 72 args).run (Tri Try.prog) w = .ok (.enter 72 args) w := Tri.callOf (by decide) Try.func72 rfl (by kernel_rfl) args w
theorem Tri.call73 (args : Array Value) (w : World) : (_root_.Go.callFunc 73 args).run (Tri Try.prog) w = .ok (.enter 73 args) w := Tri.callOf (by decide) Try.func73 rfl (by kernel_rfl) args w
theorem Tri.call74 (args : Array Value) (w : World) : (_root_.Go.callFunc 74 args).run (Tri Try.prog) w = .ok (.enter 74 args) w := Tri.callOf (by decide) Try.func74 rfl (by kernel_rfl) args w
theorem Tri.call75 (args : Array Value) (w : World) : (_root_.Go.callFunc 75 args).run (Tri Try.prog) w = .ok (.enter 75 args) w := Tri.callOf (by decide) Try.func75 rfl (by kernel_rfl) args w
theorem Tri.call76 (args : Array Value) (w : World) : (_root_.Go.callFunc 76 args).run (Tri Try.prog) w = .ok (.enter 76 args) w := Tri.callOf (by decide) Try.func76 rfl (by kernel_rfl) args w
theorem Tri.call77 (args : Array Value) (w : World) : (_root_.Go.callFunc 77 args).run (Tri Try.prog) w = .ok (.enter 77 args) w := Tri.callOf (by decide) Try.func77 rfl (by kernel_rfl) args w
theorem Tri.call78 (args : Array Value) (w : World) : (_root_.Go.callFunc 78 args).run (Tri Try.prog) w = .ok (.enter 78 args) w := Tri.callOf (by decide) Try.func78 rfl (by kernel_rfl) args w
theorem Tri.call79 (args : Array Value) (w : World) : (_root_.Go.callFunc 79 args).run (Tri Try.prog) w = .ok (.enter 79 args) w := Tri.callOf (by decide) Try.func79 rfl (by kernel_rfl) args w
theorem Tri.call80 (args : Array Value) (w : World) : (_root_.Go.callFunc 80 args).run (Tri Try.prog) w = .ok (.enter 80 args) w := Tri.callOf (by decide) Try.func80 rfl (by kernel_rfl) args w
theorem Tri.call81 (args : Array Value) (w : World) : (_root_.Go.callFunc 81 args).run (Tri Try.prog) w = .ok (.enter 81 args) w := Tri.callOf (by decide) Try.func81 rfl (by kernel_rfl) args w
theorem Tri.call82 (args : Array Value) (w : World) : (_root_.Go.callFunc 82 args).run (Tri Try.prog) w = .ok (.enter 82 args) w := Tri.callOf (by decide) Try.func82 rfl (by kernel_rfl) args w
theorem Tri.call83 (args : Array Value) (w : World) : (_root_.Go.callFunc 83 args).run (Tri Try.prog) w = .ok (.enter 83 args) w := Tri.callOf (by decide) Try.func83 rfl (by kernel_rfl) args w
theorem Tri.call84 (args : Array Value) (w : World) : (_root_.Go.callFunc 84 args).run (Tri Try.prog) w = .ok (.enter 84 args) w := Tri.callOf (by decide) Try.func84 rfl (by kernel_rfl) args w
theorem Tri.call85 (args : Array Value) (w : World) : (_root_.Go.callFunc 85 args).run (Tri Try.prog) w = .ok (.enter 85 args) w := Tri.callOf (by decide) Try.func85 rfl (by kernel_rfl) args w
theorem Tri.call86 (args : Array Value) (w : World) : (_root_.Go.callFunc 86 args).run (Tri Try.prog) w = .ok (.enter 86 args) w := Tri.callOf (by decide) Try.func86 rfl (by kernel_rfl) args w
theorem Tri.call87 (args : Array Value) (w : World) : (_root_.Go.callFunc 87 args).run (Tri Try.prog) w = .ok (.enter 87 args) w := Tri.callOf (by decide) Try.func87 rfl (by kernel_rfl) args w
theorem Tri.call88 (args : Array Value) (w : World) : (_root_.Go.callFunc 88 args).run (Tri Try.prog) w = .ok (.enter 88 args) w := Tri.callOf (by decide) Try.func88 rfl (by kernel_rfl) args w
theorem Tri.call89 (args : Array Value) (w : World) : (_root_.Go.callFunc 89 args).run (Tri Try.prog) w = .ok (.enter 89 args) w := Tri.callOf (by decide) Try.func89 rfl (by kernel_rfl) args w
theorem Tri.call90 (args : Array Value) (w : World) : (_root_.Go.callFunc 90 args).run (Tri Try.prog) w = .ok (.enter 90 args) w := Tri.callOf (by decide) Try.func90 rfl (by kernel_rfl) args w
theorem Tri.call91 (args : Array Value) (w : World) : (_root_.Go.callFunc 91 args).run (Tri Try.prog) w = .ok (.enter 91 args) w := Tri.callOf (by decide) Try.func91 rfl (by kernel_rfl) args w
theorem Tri.call92 (args : Array Value) (w : World) : (_root_.Go.callFunc 92 args).run (Tri Try.prog) w = .ok (.enter 92 args) w := Tri.callOf (by decide) Try.func92 rfl (by kernel_rfl) args w
theorem Tri.call93 (args : Array Value) (w : World) : (_root_.Go.callFunc 93 args).run (Tri Try.prog) w = .ok (.enter 93 args) w := Tri.callOf (by decide) Try.func93 rfl (by kernel_rfl) args w
theorem Tri.call94 (args : Array Value) (w : World) : (_root_.Go.callFunc 94 args).run (Tri Try.prog) w = .ok (.enter 94 args) w := Tri.callOf (by decide) Try.func94 rfl (by kernel_rfl) args w
theorem Tri.call95 (args : Array Value) (w : World) : (_root_.Go.callFunc 95 args).run (Tri Try.prog) w = .ok (.enter 95 args) w := Tri.callOf (by decide) Try.func95 rfl (by kernel_rfl) args w
theorem Tri.call96 (args : Array Value) (w : World) : (_root_.Go.callFunc 96 args).run (Tri Try.prog) w = .ok (.enter 96 args) w := Tri.callOf (by decide) Try.func96 rfl (by kernel_rfl) args w
theorem Tri.call97 (args : Array Value) (w : World) : (_root_.Go.callFunc 97 args).run (Tri Try.prog) w = .ok (.enter 97 args) w := Tri.callOf (by decide) Try.func97 rfl (by kernel_rfl) args w
theorem Tri.call98 (args : Array Value) (w : World) : (_root_.Go.callFunc 98 args).run (Tri Try.prog) w = .ok (.enter 98 args) w := Tri.callOf (by decide) Try.func98 rfl (by kernel_rfl) args w
theorem Tri.call99 (args : Array Value) (w : World) : (_root_.Go.callFunc 99 args).run (Tri Try.prog) w = .ok (.enter 99 args) w := Tri.callOf (by decide) Try.func99 rfl (by kernel_rfl) args w
theorem Tri.call100 (args : Array Value) (w : World) : (_root_.Go.callFunc 100 args).run (Tri Try.prog) w = .ok (.enter 100 args) w := Tri.callOf (by decide) Try.func100 rfl (by kernel_rfl) args w
theorem Tri.call101 (args : Array Value) (w : World) : (_root_.Go.callFunc 101 args).run (Tri Try.prog) w = .ok (.enter 101 args) w := Tri.callOf (by decide) Try.func101 rfl (by kernel_rfl) args w
theorem Tri.call102 (args : Array Value) (w : World) : (_root_.Go.callFunc 102 args).run (Tri Try.prog) w = .ok (.enter 102 args) w := Tri.callOf (by decide) Try.func102 rfl (by kernel_rfl) args w
theorem Tri.call103 (args : Array Value) (w : World) : (_root_.Go.callFunc 103 args).run (Tri Try.prog) w = .ok (.enter 103 args) w := Tri.callOf (by decide) Try.func103 rfl (by kernel_rfl) args w
theorem Tri.call104 (args : Array Value) (w : World) : (_root_.Go.callFunc 104 args).run (Tri Try.prog) w = .ok (.enter 104 args) w := Tri.callOf (by decide) Try.func104 rfl (by kernel_rfl) args w
theorem Tri.call105 (args : Array Value) (w : World) : (_root_.Go.callFunc 105 args).run (Tri Try.prog) w = .ok (.enter 105 args) w := Tri.callOf (by decide) Try.func105 rfl (by kernel_rfl) args w
theorem Tri.call106 (args : Array Value) (w : World) : (_root_.Go.callFunc 106 args).run (Tri Try.prog) w = .ok (.enter 106 args) w := Tri.callOf (by decide) Try.func106 rfl (by kernel_rfl) args w
theorem Tri.call107 (args : Array Value) (w : World) : (_root_.Go.callFunc 107 args).run (Tri Try.prog) w = .ok (.enter 107 args) w := Tri.callOf (by decide) Try.func107 rfl (by kernel_rfl) args w
theorem Tri.call108 (args : Array Value) (w : World) : (_root_.Go.callFunc 108 args).run (Tri Try.prog) w = .ok (.enter 108 args) w := Tri.callOf (by decide) Try.func108 rfl (by kernel_rfl) args w
theorem Tri.call109 (args : Array Value) (w : World) : (_root_.Go.callFunc 109 args).run (Tri Try.prog) w = .ok (.enter 109 args) w := Tri.callOf (by decide) Try.func109 rfl (by kernel_rfl) args w
theorem Tri.call110 (args : Array Value) (w : World) : (_root_.Go.callFunc 110 args).run (Tri Try.prog) w = .ok (.enter 110 args) w := Tri.callOf (by decide) Try.func110 rfl (by kernel_rfl) args w
theorem Tri.call111 (args : Array Value) (w : World) : (_root_.Go.callFunc 111 args).run (Tri Try.prog) w = .ok (.enter 111 args) w := Tri.callOf (by decide) Try.func111 rfl (by kernel_rfl) args w
theorem Tri.call112 (args : Array Value) (w : World) : (_root_.Go.callFunc 112 args).run (Tri Try.prog) w = .ok (.enter 112 args) w := Tri.callOf (by decide) Try.func112 rfl (by kernel_rfl) args w
theorem Tri.call113 (args : Array Value) (w : World) : (_root_.Go.callFunc 113 args).run (Tri Try.prog) w = .ok (.enter 113 args) w := Tri.callOf (by decide) Try.func113 rfl (by kernel_rfl) args w
theorem Tri.call114 (args : Array Value) (w : World) : (_root_.Go.callFunc 114 args).run (Tri Try.prog) w = .ok (.enter 114 args) w := Tri.callOf (by decide) Try.func114 rfl (by kernel_rfl) args w
theorem Tri.call115 (args : Array Value) (w : World) : (_root_.Go.callFunc 115 args).run (Tri Try.prog) w = .ok (.enter 115 args) w := Tri.callOf (by decide) Try.func115 rfl (by kernel_rfl) args w
theorem Tri.call116 (args : Array Value) (w : World) : (_root_.Go.callFunc 116 args).run (Tri Try.prog) w = .ok (.enter 116 args) w := Tri.callOf (by decide) Try.func116 rfl (by kernel_rfl) args w
theorem Tri.call117 (args : Array Value) (w : World) : (_root_.Go.callFunc 117 args).run (Tri Try.prog) w = .ok (.enter 117 args) w := Tri.callOf (by decide) Try.func117 rfl (by kernel_rfl) args w
theorem Tri.call118 (args : Array Value) (w : World) : (_root_.Go.callFunc 118 args).run (Tri Try.prog) w = .ok (.enter 118 args) w := Tri.callOf (by decide) Try.func118 rfl (by kernel_rfl) args w
theorem Tri.call119 (args : Array Value) (w : World) : (_root_.Go.callFunc 119 args).run (Tri Try.prog) w = .ok (.enter 119 args) w := Tri.callOf (by decide) Try.func119 rfl (by kernel_rfl) args w
theorem Tri.call120 (args : Array Value) (w : World) : (_root_.Go.callFunc 120 args).run (Tri Try.prog) w = .ok (.enter 120 args) w := Tri.callOf (by decide) Try.func120 rfl (by kernel_rfl) args w
theorem Tri.call121 (args : Array Value) (w : World) : (_root_.Go.callFunc 121 args).run (Tri Try.prog) w = .ok (.enter 121 args) w := Tri.callOf (by decide) Try.func121 rfl (by kernel_rfl) args w
theorem Tri.call122 (args : Array Value) (w : World) : (_root_.Go.callFunc 122 args).run (Tri Try.prog) w = .ok (.enter 122 args) w := Tri.callOf (by decide) Try.func122 rfl (by kernel_rfl) args w
theorem Tri.call123 (args : Array Value) (w : World) : (_root_.Go.callFunc 123 args).run (Tri Try.prog) w = .ok (.enter 123 args) w := Tri.callOf (by decide) Try.func123 rfl (by kernel_rfl) args w
theorem Tri.call124 (args : Array Value) (w : World) : (_root_.Go.callFunc 124 args).run (Tri Try.prog) w = .ok (.enter 124 args) w := Tri.callOf (by decide) Try.func124 rfl (by kernel_rfl) args w
theorem Tri.call125 (args : Array Value) (w : World) : (_root_.Go.callFunc 125 args).run (Tri Try.prog) w = .ok (.enter 125 args) w := Tri.callOf (by decide) Try.func125 rfl (by kernel_rfl) args w
theorem Tri.call126 (args : Array Value) (w : World) : (_root_.Go.callFunc 126 args).run (Tri Try.prog) w = .ok (.enter 126 args) w := Tri.callOf (by decide) Try.func126 rfl (by kernel_rfl) args w
theorem Tri.call127 (args : Array Value) (w : World) : (_root_.Go.callFunc 127 args).run (Tri Try.prog) w = .ok (.enter 127 args) w := Tri.callOf (by decide) Try.func127 rfl (by kernel_rfl) args w
theorem Tri.call128 (args : Array Value) (w : World) : (_root_.Go.callFunc 128 args).run (Tri Try.prog) w = .ok (.enter 128 args) w := Tri.callOf (by decide) Try.func128 rfl (by kernel_rfl) args w
theorem Tri.call129 (args : Array Value) (w : World) : (_root_.Go.callFunc 129 args).run (Tri Try.prog) w = .ok (.enter 129 args) w := Tri.callOf (by decide) Try.func129 rfl (by kernel_rfl) args w
theorem Tri.call130 (args : Array Value) (w : World) : (_root_.Go.callFunc 130 args).run (Tri Try.prog) w = .ok (.enter 130 args) w := Tri.callOf (by decide) Try.func130 rfl (by kernel_rfl) args w
theorem Tri.call131 (args : Array Value) (w : World) : (_root_.Go.callFunc 131 args).run (Tri Try.prog) w = .ok (.enter 131 args) w := Tri.callOf (by decide) Try.func131 rfl (by kernel_rfl) args w
theorem Tri.call132 (args : Array Value) (w : World) : (_root_.Go.callFunc 132 args).run (Tri Try.prog) w = .ok (.enter 132 args) w := Tri.callOf (by decide) Try.func132 rfl (by kernel_rfl) args w
theorem Tri.call133 (args : Array Value) (w : World) : (_root_.Go.callFunc 133 args).run (Tri Try.prog) w = .ok (.enter 133 args) w := Tri.callOf (by decide) Try.func133 rfl (by kernel_rfl) args w
theorem Tri.call134 (args : Array Value) (w : World) : (_root_.Go.callFunc 134 args).run (Tri Try.prog) w = .ok (.enter 134 args) w := Tri.callOf (by decide) Try.func134 rfl (by kernel_rfl) args w
theorem Tri.call135 (args : Array Value) (w : World) : (_root_.Go.callFunc 135 args).run (Tri Try.prog) w = .ok (.enter 135 args) w := Tri.callOf (by decide) Try.func135 rfl (by kernel_rfl) args w
theorem Tri.call136 (args : Array Value) (w : World) : (_root_.Go.callFunc 136 args).run (Tri Try.prog) w = .ok (.enter 136 args) w := Tri.callOf (by decide) Try.func136 rfl (by kernel_rfl) args w
theorem Tri.call137 (args : Array Value) (w : World) : (_root_.Go.callFunc 137 args).run (Tri Try.prog) w = .ok (.enter 137 args) w := Tri.callOf (by decide) Try.func137 rfl (by kernel_rfl) args w
theorem Tri.call138 (args : Array Value) (w : World) : (_root_.Go.callFunc 138 args).run (Tri Try.prog) w = .ok (.enter 138 args) w := Tri.callOf (by decide) Try.func138 rfl (by kernel_rfl) args w
theorem Tri.call139 (args : Array Value) (w : World) : (_root_.Go.callFunc 139 args).run (Tri Try.prog) w = .ok (.enter 139 args) w := Tri.callOf (by decide) Try.func139 rfl (by kernel_rfl) args w
theorem Tri.call140 (args : Array Value) (w : World) : (_root_.Go.callFunc 140 args).run (Tri Try.prog) w = .ok (.enter 140 args) w := Tri.callOf (by decide) Try.func140 rfl (by kernel_rfl) args w
theorem Tri.call141 (args : Array Value) (w : World) : (_root_.Go.callFunc 141 args).run (Tri Try.prog) w = .ok (.enter 141 args) w := Tri.callOf (by decide) Try.func141 rfl (by kernel_rfl) args w
theorem Tri.call142 (args : Array Value) (w : World) : (_root_.Go.callFunc 142 args).run (Tri Try.prog) w = .ok (.enter 142 args) w := Tri.callOf (by decide) Try.func142 rfl (by kernel_rfl) args w
theorem Tri.call143 (args : Array Value) (w : World) : (_root_.Go.callFunc 143 args).run (Tri Try.prog) w = .ok (.enter 143 args) w := Tri.callOf (by decide) Try.func143 rfl (by kernel_rfl) args w
theorem Tri.call144 (args : Array Value) (w : World) : (_root_.Go.callFunc 144 args).run (Tri Try.prog) w = .ok (.enter 144 args) w := Tri.callOf (by decide) Try.func144 rfl (by kernel_rfl) args w
theorem Tri.call145 (args : Array Value) (w : World) : (_root_.Go.callFunc 145 args).run (Tri Try.prog) w = .ok (.enter 145 args) w := Tri.callOf (by decide) Try.func145 rfl (by kernel_rfl) args w
theorem Tri.call146 (args : Array Value) (w : World) : (_root_.Go.callFunc 146 args).run (Tri Try.prog) w = .ok (.enter 146 args) w := Tri.callOf (by decide) Try.func146 rfl (by kernel_rfl) args w
theorem Tri.call147 (args : Array Value) (w : World) : (_root_.Go.callFunc 147 args).run (Tri Try.prog) w = .ok (.enter 147 args) w := Tri.callOf (by decide) Try.func147 rfl (by kernel_rfl) args w
theorem Tri.call148 (args : Array Value) (w : World) : (_root_.Go.callFunc 148 args).run (Tri Try.prog) w = .ok (.enter 148 args) w := Tri.callOf (by decide) Try.func148 rfl (by kernel_rfl) args w
theorem Tri.call149 (args : Array Value) (w : World) : (_root_.Go.callFunc 149 args).run (Tri Try.prog) w = .ok (.enter 149 args) w := Tri.callOf (by decide) Try.func149 rfl (by kernel_rfl) args w
theorem Tri.call150 (args : Array Value) (w : World) : (_root_.Go.callFunc 150 args).run (Tri Try.prog) w = .ok (.enter 150 args) w := Tri.callOf (by decide) Try.func150 rfl (by kernel_rfl) args w
theorem Tri.call151 (args : Array Value) (w : World) : (_root_.Go.callFunc 151 args).run (Tri Try.prog) w = .ok (.enter 151 args) w := Tri.callOf (by decide) Try.func151 rfl (by kernel_rfl) args w
theorem Tri.call152 (args : Array Value) (w : World) : (_root_.Go.callFunc 152 args).run (Tri Try.prog) w = .ok (.enter 152 args) w := Tri.callOf (by decide) Try.func152 rfl (by kernel_rfl) args w
theorem Tri.call153 (args : Array Value) (w : World) : (_root_.Go.callFunc 153 args).run (Tri Try.prog) w = .ok (.enter 153 args) w := Tri.callOf (by decide) Try.func153 rfl (by kernel_rfl) args w
theorem Tri.call154 (args : Array Value) (w : World) : (_root_.Go.callFunc 154 args).run (Tri Try.prog) w = .ok (.enter 154 args) w := Tri.callOf (by decide) Try.func154 rfl (by kernel_rfl) args w
theorem Tri.call155 (args : Array Value) (w : World) : (_root_.Go.callFunc 155 args).run (Tri Try.prog) w = .ok (.enter 155 args) w := Tri.callOf (by decide) Try.func155 rfl (by kernel_rfl) args w
theorem Tri.call157 (args : Array Value) (w : World) : (_root_.Go.callFunc 157 args).run (Tri Try.prog) w = .ok (.enter 157 args) w := Tri.callOf (by decide) Try.func157 rfl (by kernel_rfl) args w
theorem Tri.call158 (args : Array Value) (w : World) : (_root_.Go.callFunc 158 args).run (Tri Try.prog) w = .ok (.enter 158 args) w := Tri.callOf (by decide) Try.func158 rfl (by kernel_rfl) args w
theorem Tri.call159 (args : Array Value) (w : World) : (_root_.Go.callFunc 159 args).run (Tri Try.prog) w = .ok (.enter 159 args) w := Tri.callOf (by decide) Try.func159 rfl (by kernel_rfl) args w
theorem Tri.call160 (args : Array Value) (w : World) : (_root_.Go.callFunc 160 args).run (Tri Try.prog) w = .ok (.enter 160 args) w := Tri.callOf (by decide) Try.func160 rfl (by kernel_rfl) args w
theorem Tri.call161 (args : Array Value) (w : World) : (_root_.Go.callFunc 161 args).run (Tri Try.prog) w = .ok (.enter 161 args) w := Tri.callOf (by decide) Try.func161 rfl (by kernel_rfl) args w
theorem Tri.call162 (args : Array Value) (w : World) : (_root_.Go.callFunc 162 args).run (Tri Try.prog) w = .ok (.enter 162 args) w := Tri.callOf (by decide) Try.func162 rfl (by kernel_rfl) args w
theorem Tri.call163 (args : Array Value) (w : World) : (_root_.Go.callFunc 163 args).run (Tri Try.prog) w = .ok (.enter 163 args) w := Tri.callOf (by decide) Try.func163 rfl (by kernel_rfl) args w
theorem Tri.call165 (args : Array Value) (w : World) : (_root_.Go.callFunc 165 args).run (Tri Try.prog) w = .ok (.enter 165 args) w := Tri.callOf (by decide) Try.func165 rfl (by kernel_rfl) args w
theorem Tri.call166 (args : Array Value) (w : World) : (_root_.Go.callFunc 166 args).run (Tri Try.prog) w = .ok (.enter 166 args) w := Tri.callOf (by decide) Try.func166 rfl (by kernel_rfl) args w
theorem Tri.call167 (args : Array Value) (w : World) : (_root_.Go.callFunc 167 args).run (Tri Try.prog) w = .ok (.enter 167 args) w := Tri.callOf (by decide) Try.func167 rfl (by kernel_rfl) args w
theorem Tri.call183 (args : Array Value) (w : World) : (_root_.Go.callFunc 183 args).run (Tri Try.prog) w = .ok (.enter 183 args) w := Tri.callOf (by decide) Try.func183 rfl (by kernel_rfl) args w
theorem Tri.call184 (args : Array Value) (w : World) : (_root_.Go.callFunc 184 args).run (Tri Try.prog) w = .ok (.enter 184 args) w := Tri.callOf (by decide) Try.func184 rfl (by kernel_rfl) args w
end Go.Proofs.Ytlaaomhcilnbkaa
