/- The program once more, with a solver in one goroutine in the place of the one that starts two: what is shown of it is carried over to the true one later. -/
import Derived.Test.YtlaaomhcilnbkaaRows
set_option linter.unusedVariables false
set_option linter.unusedSimpArgs false
set_option linter.unusedSectionVars false
namespace Go.Proofs.Ytlaaomhcilnbkaa
open Go
/-- One operation. -/
def Tri.op (d : Option Nat) (x : Op) (t : TypeId) : Oper := { dst := d, op := x, type := t, pos := "", after := #[], guard := none }
abbrev Tri.i64 (n : Int) : Operand := .const (.int .i64 n)
/-- Each number is one of 64 bits; then the rate is sought by halves. -/
def Tri.check : Code :=
  (Code.region 2 #[Tri.op (some 11) (.binOp .lss 3 (.tmp 8) (.tmp 9) 3) 4] false).seq
    ((Code.cond (.tmp 11) .skip (.exit 0)).seq
    ((Code.region 3 #[Tri.op (some 12) (.indexAddr 22 (.tmp 1) (.tmp 8)) 0, Tri.op (some 13) (.load 2 (.tmp 12)) 2, Tri.op (some 14) (.binOp .mul 2 (.tmp 13) (Tri.i64 1) 2) 2, Tri.op (some 15) (.binOp .eql 2 (.tmp 13) (.tmp 14) 2) 4] false).seq
    ((Code.cond (.tmp 15) .skip (.refuse "")).seq
    (Code.region 4 #[Tri.op (some 16) (.binOp .add 3 (.tmp 8) (Tri.i64 1) 3) 3, Tri.op (some 8) (.move (.tmp 16)) 3] false))))
def Tri.rest : Code :=
  (Code.region 5 #[Tri.op (some 17) (.call { callee := .value (.func 42), args := #[.tmp 0, .tmp 1], argTypes := #[2, 22] }) 4] false).seq
  ((Code.cond (.tmp 17) .skip ((Code.region 6 #[Tri.op (some 4) (.assign (Tri.i64 0)) 2, Tri.op (some 5) (.assign (Tri.i64 2)) 26] false).seq .ret)).seq
  ((Code.region 7 #[Tri.op (some 18) (.call { callee := .value (.func 45), args := #[.tmp 0, .tmp 1, Tri.i64 (-990000000000)], argTypes := #[2, 22, 2] }) 4] false).seq
  ((Code.cond (.tmp 18) .skip ((Code.region 8 #[Tri.op (some 4) (.assign (Tri.i64 0)) 2, Tri.op (some 5) (.assign (Tri.i64 13)) 26] false).seq .ret)).seq
  ((Code.region 9 #[Tri.op (some 19) (.call { callee := .value (.func 45), args := #[.tmp 0, .tmp 1, Tri.i64 10000000000000], argTypes := #[2, 22, 2] }) 4] false).seq
  ((Code.cond (.tmp 19) ((Code.region 10 #[Tri.op (some 4) (.assign (Tri.i64 0)) 2, Tri.op (some 5) (.assign (Tri.i64 13)) 26] false).seq .ret) .skip).seq
  ((Code.region 11 #[Tri.op (some 20) (.move (Tri.i64 (-990000000000))) 2, Tri.op (some 21) (.move (Tri.i64 10000000000000)) 2] false).seq
  ((Code.block 1 (Code.loop
    ((Code.region 12 #[Tri.op (some 22) (.binOp .sub 2 (.tmp 21) (.tmp 20) 2) 2, Tri.op (some 23) (.binOp .gtr 2 (.tmp 22) (Tri.i64 1) 2) 4] false).seq
    ((Code.cond (.tmp 23) .skip (.exit 1)).seq
    ((Code.region 13 #[Tri.op (some 24) (.binOp .quo 2 (.tmp 22) (Tri.i64 2) 2) 2, Tri.op (some 25) (.binOp .add 2 (.tmp 20) (.tmp 24) 2) 2, Tri.op (some 26) (.call { callee := .value (.func 45), args := #[.tmp 0, .tmp 1, .tmp 25], argTypes := #[2, 22, 2] }) 4] false).seq
    (Code.cond (.tmp 26) (Code.region 14 #[Tri.op (some 20) (.move (.tmp 25)) 2] false) (Code.region 15 #[Tri.op (some 21) (.move (.tmp 25)) 2] false))))))).seq
  ((Code.region 16 #[Tri.op (some 4) (.assign (.tmp 20)) 2, Tri.op (some 5) (.assign (Tri.i64 0)) 26] false).seq .ret))))))))
def Tri.body : Code :=
  (Code.region 0 #[Tri.op (some 6) (.binOp .mul 2 (.tmp 0) (Tri.i64 1) 2) 2, Tri.op (some 7) (.binOp .eql 2 (.tmp 0) (.tmp 6) 2) 4, Tri.op (some 8) (.move (Tri.i64 0)) 3, Tri.op (some 9) (.call { callee := .builtin .len, args := #[.tmp 1], argTypes := #[22] }) 3, Tri.op (some 10) (.binOp .gtr 3 (.tmp 9) (Tri.i64 600) 3) 4] false).seq
  ((Code.cond (.tmp 7) .skip (.refuse "")).seq
  ((Code.cond (.tmp 10) ((Code.region 1 #[Tri.op (some 4) (.assign (Tri.i64 0)) 2, Tri.op (some 5) (.assign (Tri.i64 2)) 26] false).seq .ret) .skip).seq
  ((Code.block 0 (Code.loop Tri.check)).seq Tri.rest)))
def Tri.f16 : Func := { name := "Solve", origin := "", targs := #[], params := #[2, 22], resultTypes := #[2, 26], nfree := 0, ntmps := 27, results := #[.tmp 4, .tmp 5], body := some Tri.body, norace := false, file := "", endLine := 0, tmpNames := #[] }
/-- The program with that solver. -/
def Tri (P : Program) : Program := { P with funcs := P.funcs.setIfInBounds 16 Tri.f16 }
theorem Tri.nine (P : Program) (h : 16 < P.funcs.size) : (Tri P).funcs[16]? = some Tri.f16 := by
  unfold Tri
  exact Array.getElem?_setIfInBounds_self_of_lt h
theorem Tri.func (P : Program) {n : Nat} (h : n ≠ 16) : (Tri P).funcs[n]? = P.funcs[n]? := by
  unfold Tri
  exact Array.getElem?_setIfInBounds_ne (fun e => h e.symm)
theorem lt_of_get {xs : Array Func} {n : Nat} {f : Func} (h : xs[n]? = some f) : n < xs.size := (Array.getElem?_eq_some_iff.1 h).1
theorem Tri.func16 : (Tri Try.prog).funcs[16]? = some Tri.f16 := Tri.nine _ (lt_of_get Try.func16)
theorem Tri.at {n : Nat} {f : Func} (h : n ≠ 16) (e : Try.prog.funcs[n]? = some f) : (Tri Try.prog).funcs[n]? = some f := (Tri.func _ h).trans e
theorem Tri.ntmps16 : Tri.f16.ntmps = 27 := rfl
theorem Tri.info (P : Program) (t : TypeId) : (Tri P).info? t = P.info? t := rfl
theorem Tri.underlying (P : Program) (t : TypeId) : (Tri P).underlying t = P.underlying t := rfl
theorem Tri.und {t : TypeId} {d : Option TypeDesc} (h : Try.prog.underlying t = d) : (Tri Try.prog).underlying t = d := (Tri.underlying _ t).trans h
theorem Tri.typeInfo (P : Program) (t : TypeId) (w : World) : (_root_.Go.typeInfo t).run (Tri P) w = (_root_.Go.typeInfo t).run P w := by
  simp only [_root_.Go.typeInfo, program, bind, Sem.bind, Sem.run, Tri.info]
  cases P.info? t <;> rfl
theorem Tri.sizeOf (P : Program) (t : TypeId) (w : World) : (_root_.Go.sizeOf t).run (Tri P) w = (_root_.Go.sizeOf t).run P w := by
  simp only [_root_.Go.sizeOf, _root_.Go.typeInfo, program, bind, Sem.bind, Sem.run, Tri.info]
  cases P.info? t <;> rfl
theorem Tri.runUnderlying (P : Program) (t : TypeId) (w : World) : (_root_.Go.underlying t).run (Tri P) w = (_root_.Go.underlying t).run P w := by
  simp only [_root_.Go.underlying, program, bind, Sem.bind, Sem.run, Tri.underlying]
  cases P.underlying t <;> rfl
theorem Tri.isAgg (P : Program) (t : TypeId) (w : World) : (_root_.Go.isAgg t).run (Tri P) w = (_root_.Go.isAgg t).run P w := by
  simp only [_root_.Go.isAgg, _root_.Go.underlying, program, bind, Sem.bind, Sem.run, Tri.underlying]
  cases h : P.underlying t with
  | none => rfl
  | some d => cases d <;> rfl
theorem Tri.zeroValue (P : Program) (t : TypeId) (w : World) : (_root_.Go.zeroValue t).run (Tri P) w = (_root_.Go.zeroValue t).run P w := by
  simp only [_root_.Go.zeroValue, _root_.Go.typeInfo, program, bind, Sem.bind, Sem.run, Tri.info]
  cases h : P.info? t with
  | none => rfl
  | some i => cases h2 : i.zero <;> simp only [Sem.bind, pure, h2] <;> rfl
theorem Tri.depth (P : Program) : (Tri P).depth = P.depth := rfl
theorem Tri.cutTypes (P : Program) : (Tri P).cutTypes = P.cutTypes := rfl
theorem Tri.underlyingId (P : Program) (t : TypeId) : (Tri P).underlyingId t = P.underlyingId t := rfl
theorem Tri.alike (P : Program) : ∀ (d : Nat) (t u : TypeId), (Tri P).alikeButTags d t u = P.alikeButTags d t u := by
  intro d
  induction d with
  | zero => intro t u; rfl
  | succ d ih => intro t u; simp only [Program.alikeButTags, Tri.info, ih]
theorem Tri.stoodInHeld (P : Program) (t : TypeId) : (Tri P).stoodInHeld t = P.stoodInHeld t := by
  simp only [Program.stoodInHeld, Program.stoodInAs, Tri.cutTypes, Tri.underlying, Tri.info, Tri.underlyingId, Tri.alike, Tri.depth]
theorem Tri.eqGuardType (P : Program) : ∀ (d : Nat) (t : TypeId), (Tri P).eqGuardType d t = P.eqGuardType d t := by
  intro d
  induction d with
  | zero => intro t; rfl
  | succ d ih => intro t; simp only [Program.eqGuardType, Tri.underlying, ih]
theorem Tri.callOf {n : FuncId} {f : Func} (h9 : n ≠ 16) (e : Try.prog.funcs[n]? = some f) (hb : f.body.isNone = false) (hn : (f.name == "runtime.NumGoroutine") = false) (args : Array Value) (w : World) : (_root_.Go.callFunc n args).run (Tri Try.prog) w = .ok (.enter n args) w := by
  simp only [_root_.Go.callFunc, program, bind, Sem.bind, Sem.run]
  rw [Tri.func Try.prog h9, e]
  simp only [hb, hn, Bool.false_eq_true, if_false]
  rfl
theorem Tri.call16 (args : Array Value) (w : World) : (_root_.Go.callFunc 16 args).run (Tri Try.prog) w = .ok (.enter 16 args) w := by
  simp only [_root_.Go.callFunc, program, bind, Sem.bind, Sem.run]
  rw [Tri.func16]
  rfl
theorem Tri.call22 (args : Array Value) (w : World) : (_root_.Go.callFunc 22 args).run (Tri Try.prog) w = .ok (.enter 22 args) w := Tri.callOf (by decide) Try.func22 rfl (by kernel_rfl) args w
theorem Tri.call28 (args : Array Value) (w : World) : (_root_.Go.callFunc 28 args).run (Tri Try.prog) w = .ok (.enter 28 args) w := Tri.callOf (by decide) Try.func28 rfl (by kernel_rfl) args w
theorem Tri.call29 (args : Array Value) (w : World) : (_root_.Go.callFunc 29 args).run (Tri Try.prog) w = .ok (.enter 29 args) w := Tri.callOf (by decide) Try.func29 rfl (by kernel_rfl) args w
theorem Tri.call33 (args : Array Value) (w : World) : (_root_.Go.callFunc 33 args).run (Tri Try.prog) w = .ok (.enter 33 args) w := Tri.callOf (by decide) Try.func33 rfl (by kernel_rfl) args w
theorem Tri.call38 (args : Array Value) (w : World) : (_root_.Go.callFunc 38 args).run (Tri Try.prog) w = .ok (.enter 38 args) w := Tri.callOf (by decide) Try.func38 rfl (by kernel_rfl) args w
theorem Tri.call39 (args : Array Value) (w : World) : (_root_.Go.callFunc 39 args).run (Tri Try.prog) w = .ok (.enter 39 args) w := Tri.callOf (by decide) Try.func39 rfl (by kernel_rfl) args w
theorem Tri.call42 (args : Array Value) (w : World) : (_root_.Go.callFunc 42 args).run (Tri Try.prog) w = .ok (.enter 42 args) w := Tri.callOf (by decide) Try.func42 rfl (by kernel_rfl) args w
theorem Tri.call45 (args : Array Value) (w : World) : (_root_.Go.callFunc 45 args).run (Tri Try.prog) w = .ok (.enter 45 args) w := Tri.callOf (by decide) Try.func45 rfl (by kernel_rfl) args w
theorem Tri.call48 (args : Array Value) (w : World) : (_root_.Go.callFunc 48 args).run (Tri Try.prog) w = .ok (.enter 48 args) w := Tri.callOf (by decide) Try.func48 rfl (by kernel_rfl) args w
theorem Tri.call52 (args : Array Value) (w : World) : (_root_.Go.callFunc 52 args).run (Tri Try.prog) w = .ok (.enter 52 args) w := Tri.callOf (by decide) Try.func52 rfl (by kernel_rfl) args w
theorem Tri.call54 (args : Array Value) (w : World) : (_root_.Go.callFunc 54 args).run (Tri Try.prog) w = .ok (.enter 54 args) w := Tri.callOf (by decide) Try.func54 rfl (by kernel_rfl) args w
theorem Tri.call62 (args : Array Value) (w : World) : (_root_.Go.callFunc 62 args).run (Tri Try.prog) w = .ok (.enter 62 args) w := Tri.callOf (by decide) Try.func62 rfl (by kernel_rfl) args w
theorem Tri.call63 (args : Array Value) (w : World) : (_root_.Go.callFunc 63 args).run (Tri Try.prog) w = .ok (.enter 63 args) w := Tri.callOf (by decide) Try.func63 rfl (by kernel_rfl) args w
theorem Tri.call65 (args : Array Value) (w : World) : (_root_.Go.callFunc 65 args).run (Tri Try.prog) w = .ok (.enter 65 args) w := Tri.callOf (by decide) Try.func65 rfl (by kernel_rfl) args w
theorem Tri.call66 (args : Array Value) (w : World) : (_root_.Go.callFunc 66 args).run (Tri Try.prog) w = .ok (.enter 66 args) w := Tri.callOf (by decide) Try.func66 rfl (by kernel_rfl) args w
theorem Tri.call68 (args : Array Value) (w : World) : (_root_.Go.callFunc 68 args).run (Tri Try.prog) w = .ok (.enter 68 args) w := Tri.callOf (by decide) Try.func68 rfl (by kernel_rfl) args w
theorem Tri.call69 (args : Array Value) (w : World) : (_root_.Go.callFunc 69 args).run (Tri Try.prog) w = .ok (.enter 69 args) w := Tri.callOf (by decide) Try.func69 rfl (by kernel_rfl) args w
theorem Tri.call70 (args : Array Value) (w : World) : (_root_.Go.callFunc 70 args).run (Tri Try.prog) w = .ok (.enter 70 args) w := Tri.callOf (by decide) Try.func70 rfl (by kernel_rfl) args w
theorem Tri.call71 (args : Array Value) (w : World) : (_root_.Go.callFunc 71 args).run (Tri Try.prog) w = .ok (.enter 71 args) w := Tri.callOf (by decide) Try.func71 rfl (by kernel_rfl) args w
theorem Tri.call78 (args : Array Value) (w : World) : (_root_.Go.callFunc 78 args).run (Tri Try.prog) w = .ok (.enter 78 args) w := Tri.callOf (by decide) Try.func78 rfl (by kernel_rfl) args w
theorem Tri.call79 (args : Array Value) (w : World) : (_root_.Go.callFunc 79 args).run (Tri Try.prog) w = .ok (.enter 79 args) w := Tri.callOf (by decide) Try.func79 rfl (by kernel_rfl) args w
theorem Tri.call80 (args : Array Value) (w : World) : (_root_.Go.callFunc 80 args).run (Tri Try.prog) w = .ok (.enter 80 args) w := Tri.callOf (by decide) Try.func80 rfl (by kernel_rfl) args w
theorem Tri.call81 (args : Array Value) (w : World) : (_root_.Go.callFunc 81 args).run (Tri Try.prog) w = .ok (.enter 81 args) w := Tri.callOf (by decide) Try.func81 rfl (by kernel_rfl) args w
theorem Tri.call82 (args : Array Value) (w : World) : (_root_.Go.callFunc 82 args).run (Tri Try.prog) w = .ok (.enter 82 args) w := Tri.callOf (by decide) Try.func82 rfl (by kernel_rfl) args w
theorem Tri.call83 (args : Array Value) (w : World) : (_root_.Go.callFunc 83 args).run (Tri Try.prog) w = .ok (.enter 83 args) w := Tri.callOf (by decide) Try.func83 rfl (by kernel_rfl) args w
theorem Tri.call84 (args : Array Value) (w : World) : (_root_.Go.callFunc 84 args).run (Tri Try.prog) w = .ok (.enter 84 args) w := Tri.callOf (by decide) Try.func84 rfl (by kernel_rfl) args w
theorem Tri.call85 (args : Array Value) (w : World) : (_root_.Go.callFunc 85 args).run (Tri Try.prog) w = .ok (.enter 85 args) w := Tri.callOf (by decide) Try.func85 rfl (by kernel_rfl) args w
theorem Tri.call86 (args : Array Value) (w : World) : (_root_.Go.callFunc 86 args).run (Tri Try.prog) w = .ok (.enter 86 args) w := Tri.callOf (by decide) Try.func86 rfl (by kernel_rfl) args w
theorem Tri.call89 (args : Array Value) (w : World) : (_root_.Go.callFunc 89 args).run (Tri Try.prog) w = .ok (.enter 89 args) w := Tri.callOf (by decide) Try.func89 rfl (by kernel_rfl) args w
theorem Tri.call101 (args : Array Value) (w : World) : (_root_.Go.callFunc 101 args).run (Tri Try.prog) w = .ok (.enter 101 args) w := Tri.callOf (by decide) Try.func101 rfl (by kernel_rfl) args w
theorem Tri.call102 (args : Array Value) (w : World) : (_root_.Go.callFunc 102 args).run (Tri Try.prog) w = .ok (.enter 102 args) w := Tri.callOf (by decide) Try.func102 rfl (by kernel_rfl) args w
theorem Tri.call103 (args : Array Value) (w : World) : (_root_.Go.callFunc 103 args).run (Tri Try.prog) w = .ok (.enter 103 args) w := Tri.callOf (by decide) Try.func103 rfl (by kernel_rfl) args w
theorem Tri.call104 (args : Array Value) (w : World) : (_root_.Go.callFunc 104 args).run (Tri Try.prog) w = .ok (.enter 104 args) w := Tri.callOf (by decide) Try.func104 rfl (by kernel_rfl) args w
theorem Tri.call105 (args : Array Value) (w : World) : (_root_.Go.callFunc 105 args).run (Tri Try.prog) w = .ok (.enter 105 args) w := Tri.callOf (by decide) Try.func105 rfl (by kernel_rfl) args w
theorem Tri.call107 (args : Array Value) (w : World) : (_root_.Go.callFunc 107 args).run (Tri Try.prog) w = .ok (.enter 107 args) w := Tri.callOf (by decide) Try.func107 rfl (by kernel_rfl) args w
theorem Tri.call113 (args : Array Value) (w : World) : (_root_.Go.callFunc 113 args).run (Tri Try.prog) w = .ok (.enter 113 args) w := Tri.callOf (by decide) Try.func113 rfl (by kernel_rfl) args w
theorem Tri.call123 (args : Array Value) (w : World) : (_root_.Go.callFunc 123 args).run (Tri Try.prog) w = .ok (.enter 123 args) w := Tri.callOf (by decide) Try.func123 rfl (by kernel_rfl) args w
theorem Tri.call124 (args : Array Value) (w : World) : (_root_.Go.callFunc 124 args).run (Tri Try.prog) w = .ok (.enter 124 args) w := Tri.callOf (by decide) Try.func124 rfl (by kernel_rfl) args w
theorem Tri.call125 (args : Array Value) (w : World) : (_root_.Go.callFunc 125 args).run (Tri Try.prog) w = .ok (.enter 125 args) w := Tri.callOf (by decide) Try.func125 rfl (by kernel_rfl) args w
theorem Tri.call126 (args : Array Value) (w : World) : (_root_.Go.callFunc 126 args).run (Tri Try.prog) w = .ok (.enter 126 args) w := Tri.callOf (by decide) Try.func126 rfl (by kernel_rfl) args w
theorem Tri.call127 (args : Array Value) (w : World) : (_root_.Go.callFunc 127 args).run (Tri Try.prog) w = .ok (.enter 127 args) w := Tri.callOf (by decide) Try.func127 rfl (by kernel_rfl) args w
theorem Tri.call136 (args : Array Value) (w : World) : (_root_.Go.callFunc 136 args).run (Tri Try.prog) w = .ok (.enter 136 args) w := Tri.callOf (by decide) Try.func136 rfl (by kernel_rfl) args w
theorem Tri.call138 (args : Array Value) (w : World) : (_root_.Go.callFunc 138 args).run (Tri Try.prog) w = .ok (.enter 138 args) w := Tri.callOf (by decide) Try.func138 rfl (by kernel_rfl) args w
theorem Tri.call139 (args : Array Value) (w : World) : (_root_.Go.callFunc 139 args).run (Tri Try.prog) w = .ok (.enter 139 args) w := Tri.callOf (by decide) Try.func139 rfl (by kernel_rfl) args w
theorem Tri.call140 (args : Array Value) (w : World) : (_root_.Go.callFunc 140 args).run (Tri Try.prog) w = .ok (.enter 140 args) w := Tri.callOf (by decide) Try.func140 rfl (by kernel_rfl) args w
theorem Tri.call141 (args : Array Value) (w : World) : (_root_.Go.callFunc 141 args).run (Tri Try.prog) w = .ok (.enter 141 args) w := Tri.callOf (by decide) Try.func141 rfl (by kernel_rfl) args w
theorem Tri.call142 (args : Array Value) (w : World) : (_root_.Go.callFunc 142 args).run (Tri Try.prog) w = .ok (.enter 142 args) w := Tri.callOf (by decide) Try.func142 rfl (by kernel_rfl) args w
theorem Tri.call143 (args : Array Value) (w : World) : (_root_.Go.callFunc 143 args).run (Tri Try.prog) w = .ok (.enter 143 args) w := Tri.callOf (by decide) Try.func143 rfl (by kernel_rfl) args w
theorem Tri.call144 (args : Array Value) (w : World) : (_root_.Go.callFunc 144 args).run (Tri Try.prog) w = .ok (.enter 144 args) w := Tri.callOf (by decide) Try.func144 rfl (by kernel_rfl) args w
theorem Tri.call154 (args : Array Value) (w : World) : (_root_.Go.callFunc 154 args).run (Tri Try.prog) w = .ok (.enter 154 args) w := Tri.callOf (by decide) Try.func154 rfl (by kernel_rfl) args w
theorem Tri.call155 (args : Array Value) (w : World) : (_root_.Go.callFunc 155 args).run (Tri Try.prog) w = .ok (.enter 155 args) w := Tri.callOf (by decide) Try.func155 rfl (by kernel_rfl) args w
theorem Tri.call165 (args : Array Value) (w : World) : (_root_.Go.callFunc 165 args).run (Tri Try.prog) w = .ok (.enter 165 args) w := Tri.callOf (by decide) Try.func165 rfl (by kernel_rfl) args w
theorem Tri.call167 (args : Array Value) (w : World) : (_root_.Go.callFunc 167 args).run (Tri Try.prog) w = .ok (.enter 167 args) w := Tri.callOf (by decide) Try.func167 rfl (by kernel_rfl) args w
theorem Tri.call184 (args : Array Value) (w : World) : (_root_.Go.callFunc 184 args).run (Tri Try.prog) w = .ok (.enter 184 args) w := Tri.callOf (by decide) Try.func184 rfl (by kernel_rfl) args w
end Go.Proofs.Ytlaaomhcilnbkaa
