/- The program once more, with a solver in one goroutine in the place of the one that starts two: what is shown of it is carried over to the true one later. -/
import Derived.Test.YtpeoabopeihadaaRows
set_option linter.unusedVariables false
set_option linter.unusedSimpArgs false
set_option linter.unusedSectionVars false
namespace Go.Proofs.Ytpeoabopeihadaa
open Go
def Tri.op (d : Option Nat) (x : Op) (t : TypeId) : Oper := { dst := d, op := x, type := t, pos := "", after := #[], guard := none }
abbrev Tri.i64 (n : Int) : Operand := .const (.int .i64 n)
def Tri.check : Code :=
 (Code.region 2 #[Tri.op (some 11) (.binOp .lss 3 (.tmp 8) (.tmp 9) 3) 4] false).seq
  ((Code.cond (.tmp 11) .skip (.exit 0)).seq
  ((Code.region 3 #[Tri.op (some 12) (.indexAddr 22 (.tmp 1) (.tmp 8)) 0, Tri.op (some 13) (.load 2 (.tmp 12)) 2, Tri.op (some 14) (.binOp .mul 2 (.tmp 13) (Tri.i64 1) 2) 2, Tri.op (some 15) (.binOp .eql 2 (.tmp 13) (.tmp 14) 2) 4] false).seq
  ((Code.cond (.tmp 15) .skip (.refuse "")).seq
  (Code.region 4 #[Tri.op (some 16) (.binOp .add 3 (.tmp 8) (Tri.i64 1) 3) 3, Tri.op (some 8) (.move (.tmp 16)) 3] false))))
def Tri.rest : Code :=
 (Code.region 5 #[Tri.op (some 17) (.call { callee := .value (.func 46), args := #[.tmp 0, .tmp 1], argTypes := #[2, 22] }) 4] false).seq
 ((Code.cond (.tmp 17) .skip ((Code.region 6 #[Tri.op (some 4) (.assign (Tri.i64 0)) 2, Tri.op (some 5) (.assign (Tri.i64 2)) 26] false).seq .ret)).seq
 ((Code.region 7 #[Tri.op (some 18) (.call { callee := .value (.func 49), args := #[.tmp 0, .tmp 1, Tri.i64 (-990000000000)], argTypes := #[2, 22, 2] }) 4] false).seq
 ((Code.cond (.tmp 18) .skip ((Code.region 8 #[Tri.op (some 4) (.assign (Tri.i64 0)) 2, Tri.op (some 5) (.assign (Tri.i64 13)) 26] false).seq .ret)).seq
 ((Code.region 9 #[Tri.op (some 19) (.call { callee := .value (.func 49), args := #[.tmp 0, .tmp 1, Tri.i64 10000000000000], argTypes := #[2, 22, 2] }) 4] false).seq
 ((Code.cond (.tmp 19) ((Code.region 10 #[Tri.op (some 4) (.assign (Tri.i64 0)) 2, Tri.op (some 5) (.assign (Tri.i64 13)) 26] false).seq .ret) .skip).seq
 ((Code.region 11 #[Tri.op (some 20) (.move (Tri.i64 (-990000000000))) 2, Tri.op (some 21) (.move (Tri.i64 10000000000000)) 2] false).seq
 ((Code.block 1 (Code.loop
  ((Code.region 12 #[Tri.op (some 22) (.binOp .sub 2 (.tmp 21) (.tmp 20) 2) 2, Tri.op (some 23) (.binOp .gtr 2 (.tmp 22) (Tri.i64 1) 2) 4] false).seq
  ((Code.cond (.tmp 23) .skip (.exit 1)).seq
  ((Code.region 13 #[Tri.op (some 24) (.binOp .quo 2 (.tmp 22) (Tri.i64 2) 2) 2, Tri.op (some 25) (.binOp .add 2 (.tmp 20) (.tmp 24) 2) 2, Tri.op (some 26) (.call { callee := .value (.func 49), args := #[.tmp 0, .tmp 1, .tmp 25], argTypes := #[2, 22, 2] }) 4] false).seq
  (Code.cond (.tmp 26) (Code.region 14 #[Tri.op (some 20) (.move (.tmp 25)) 2] false) (Code.region 15 #[Tri.op (some 21) (.move (.tmp 25)) 2] false))))))).seq
 ((Code.region 16 #[Tri.op (some 4) (.assign (.tmp 20)) 2, Tri.op (some 5) (.assign (Tri.i64 0)) 26] false).seq .ret))))))))
def Tri.body : Code :=
 (Code.region 0 #[Tri.op (some 6) (.binOp .mul 2 (.tmp 0) (Tri.i64 1) 2) 2, Tri.op (some 7) (.binOp .eql 2 (.tmp 0) (.tmp 6) 2) 4, Tri.op (some 8) (.move (Tri.i64 0)) 3, Tri.op (some 9) (.call { callee := .builtin .len, args := #[.tmp 1], argTypes := #[22] }) 3, Tri.op (some 10) (.binOp .gtr 3 (.tmp 9) (Tri.i64 600) 3) 4] false).seq
 ((Code.cond (.tmp 7) .skip (.refuse "")).seq
 ((Code.cond (.tmp 10) ((Code.region 1 #[Tri.op (some 4) (.assign (Tri.i64 0)) 2, Tri.op (some 5) (.assign (Tri.i64 2)) 26] false).seq .ret) .skip).seq
 ((Code.block 0 (Code.loop Tri.check)).seq Tri.rest)))
def Tri.f15 : Func := { name := "Solve", origin := "", targs := #[], params := #[2, 22], resultTypes := #[2, 26], nfree := 0, ntmps := 27, results := #[.tmp 4, .tmp 5], body := some Tri.body, norace := false, file := "", endLine := 0, tmpNames := #[] }
def Tri (P : Program) : Program := { P with funcs := P.funcs.setIfInBounds 15 Tri.f15 }
theorem Tri.nine (P : Program) (h : 15 < P.funcs.size) : (Tri P).funcs[15]? = some Tri.f15 := by
 unfold Tri
 exact Array.getElem?_setIfInBounds_self_of_lt h
theorem Tri.func (P : Program) {n : Nat} (h : n ≠ 15) : (Tri P).funcs[n]? = P.funcs[n]? := by
 unfold Tri
 exact Array.getElem?_setIfInBounds_ne (fun e => h e.symm)
theorem lt_of_get {xs : Array Func} {n : Nat} {f : Func} (h : xs[n]? = some f) : n < xs.size := (Array.getElem?_eq_some_iff.1 h).1
theorem Tri.func15 : (Tri Try.prog).funcs[15]? = some Tri.f15 := Tri.nine _ (lt_of_get Try.func15)
theorem Tri.at {n : Nat} {f : Func} (h : n ≠ 15) (e : Try.prog.funcs[n]? = some f) : (Tri Try.prog).funcs[n]? = some f := (Tri.func _ h).trans e
theorem Tri.ntmps15 : Tri.f15.ntmps = 27 := rfl
theorem Tri.info (P : Program) (t : TypeId) : (Tri P).info? t = P.info? t := rfl
theorem Tri.underlying (P : Program) (t : TypeId) : (Tri P).underlying t = P.underlying t := rfl
theorem Tri.und {t : TypeId} {d : Option TypeDesc} (h : Try.prog.underlying t = d) : (Tri Try.prog).underlying t = d := (Tri.underlying _ t).trans h
theorem Tri.typeInfo (P : Program) (t : TypeId) (w : World) : (_root_.Go.typeInfo t).run (Tri P) w = (_root_.Go.typeInfo t).run P w := by
 simp only [_root_.Go.typeInfo, program, bind, Sem.bind, Sem.run, Tri.info]
 cases P.info? t <;> rfl
theorem Tri.sizeOf (P : Program) (t : TypeId) (w : World) : (_root_.Go.sizeOf t).run (Tri P) w = (_root_.Go.sizeOf t).run P w := by
 simp only [_root_.Go.sizeOf, _root_.Go.typeInfo, program, bind, Sem.bind, Sem.run, Tri.info]
 cases P.info? t <;> rfl
theorem Tri.runUnderlying (P : Program) (t : TypeId) (w : World) : (_root_.Go.underlying t).run (Tri P) w = (_root_.Go.underlying t).run P w := by
 simp only [_root_.Go.underlying, program, bind, Sem.bind, Sem.run, Tri.underlying]
 cases P.underlying t <;> rfl
theorem Tri.isAgg (P : Program) (t : TypeId) (w : World) : (_root_.Go.isAgg t).run (Tri P) w = (_root_.Go.isAgg t).run P w := by
 simp only [_root_.Go.isAgg, _root_.Go.underlying, program, bind, Sem.bind, Sem.run, Tri.underlying]
 cases h : P.underlying t with
 | none => rfl
 | some d => cases d <;> rfl
theorem Tri.zeroValue (P : Program) (t : TypeId) (w : World) : (_root_.Go.zeroValue t).run (Tri P) w = (_root_.Go.zeroValue t).run P w := by
 simp only [_root_.Go.zeroValue, _root_.Go.typeInfo, program, bind, Sem.bind, Sem.run, Tri.info]
 cases h : P.info? t with
 | none => rfl
 | some i => cases h2 : i.zero <;> simp only [Sem.bind, pure, h2] <;> rfl
theorem Tri.depth (P : Program) : (Tri P).depth = P.depth := rfl
theorem Tri.cutTypes (P : Program) : (Tri P).cutTypes = P.cutTypes := rfl
theorem Tri.underlyingId (P : Program) (t : TypeId) : (Tri P).underlyingId t = P.underlyingId t := rfl
theorem Tri.alike (P : Program) : ∀ (d : Nat) (t u : TypeId), (Tri P).alikeButTags d t u = P.alikeButTags d t u := by
 intro d
 induction d with
 | zero => intro t u; rfl
 | succ d ih => intro t u; simp only [Program.alikeButTags, Tri.info, ih]
theorem Tri.stoodInHeld (P : Program) (t : TypeId) : (Tri P).stoodInHeld t = P.stoodInHeld t := by
 simp only [Program.stoodInHeld, Program.stoodInAs, Tri.cutTypes, Tri.underlying, Tri.info, Tri.underlyingId, Tri.alike, Tri.depth]
theorem Tri.eqGuardType (P : Program) : ∀ (d : Nat) (t : TypeId), (Tri P).eqGuardType d t = P.eqGuardType d t := by
 intro d
 induction d with
 | zero => intro t; rfl
 | succ d ih => intro t; simp only [Program.eqGuardType, Tri.underlying, ih]
theorem Tri.callOf {n : FuncId} {f : Func} (h9 : n ≠ 15) (e : Try.prog.funcs[n]? = some f) (hb : f.body.isNone = false) (hn : (f.name == "runtime.NumGoroutine") = false) (args : Array Value) (w : World) : (_root_.Go.callFunc n args).run (Tri Try.prog) w = .ok (.enter n args) w := by
 simp only [_root_.Go.callFunc, program, bind, Sem.bind, Sem.run]
 rw [Tri.func Try.prog h9, e]
 simp only [hb, hn, Bool.false_eq_true, if_false]
 rfl
theorem Tri.call15 (args : Array Value) (w : World) : (_root_.Go.callFunc 15 args).run (Tri Try.prog) w = .ok (.enter 15 args) w := by
 simp only [_root_.Go.callFunc, program, bind, Sem.bind, Sem.run]
 rw [Tri.func15]
 rfl
theorem Tri.call16 (args : Array Value) (w : World) : (_root_.Go.callFunc 16 args).run (Tri Try.prog) w = .ok (.enter 16 args) w := Tri.callOf (by decide) Try.func16 rfl (by kernel_rfl) args w
theorem Tri.call26 (args : Array Value) (w : World) : (_root_.Go.callFunc 26 args).run (Tri Try.prog) w = .ok (.enter 26 args) w := Tri.callOf (by decide) Try.func26 rfl (by kernel_rfl) args w
theorem Tri.call27 (args : Array Value) (w : World) : (_root_.Go.callFunc 27 args).run (Tri Try.prog) w = .ok (.enter 27 args) w := Tri.callOf (by decide) Try.func27 rfl (by kernel_rfl) args w
theorem Tri.call28 (args : Array Value) (w : World) : (_root_.Go.callFunc 28 args).run (Tri Try.prog) w = .ok (.enter 28 args) w := Tri.callOf (by decide) Try.func28 rfl (by kernel_rfl) args w
theorem Tri.call29 (args : Array Value) (w : World) : (_root_.Go.callFunc 29 args).run (Tri Try.prog) w = .ok (.enter 29 args) w := Tri.callOf (by decide) Try.func29 rfl (by kernel_rfl) args w
theorem Tri.call30 (args : Array Value) (w : World) : (_root_.Go.callFunc 30 args).run (Tri Try.prog) w = .ok (.enter 30 args) w := Tri.callOf (by decide) Try.func30 rfl (by kernel_rfl) args w
theorem Tri.call31 (args : Array Value) (w : World) : (_root_.Go.callFunc 31 args).run (Tri Try.prog) w = .ok (.enter 31 args) w := Tri.callOf (by decide) Try.func31 rfl (by kernel_rfl) args w
theorem Tri.call46 (args : Array Value) (w : World) : (_root_.Go.callFunc 46 args).run (Tri Try.prog) w = .ok (.enter 46 args) w := Tri.callOf (by decide) Try.func46 rfl (by kernel_rfl) args w
theorem Tri.call49 (args : Array Value) (w : World) : (_root_.Go.callFunc 49 args).run (Tri Try.prog) w = .ok (.enter 49 args) w := Tri.callOf (by decide) Try.func49 rfl (by kernel_rfl) args w
theorem Tri.call50 (args : Array Value) (w : World) : (_root_.Go.callFunc 50 args).run (Tri Try.prog) w = .ok (.enter 50 args) w := Tri.callOf (by decide) Try.func50 rfl (by kernel_rfl) args w
theorem Tri.call51 (args : Array Value) (w : World) : (_root_.Go.callFunc 51 args).run (Tri Try.prog) w = .ok (.enter 51 args) w := Tri.callOf (by decide) Try.func51 rfl (by kernel_rfl) args w
theorem Tri.call52 (args : Array Value) (w : World) : (_root_.Go.callFunc 52 args).run (Tri Try.prog) w = .ok (.enter 52 args) w := Tri.callOf (by decide) Try.func52 rfl (by kernel_rfl) args w
theorem Tri.call53 (args : Array Value) (w : World) : (_root_.Go.callFunc 53 args).run (Tri Try.prog) w = .ok (.enter 53 args) w := Tri.callOf (by decide) Try.func53 rfl (by kernel_rfl) args w
theorem Tri.call54 (args : Array Value) (w : World) : (_root_.Go.callFunc 54 args).run (Tri Try.prog) w = .ok (.enter 54 args) w := Tri.callOf (by decide) Try.func54 rfl (by kernel_rfl) args w
theorem Tri.call65 (args : Array Value) (w : World) : (_root_.Go.callFunc 65 args).run (Tri Try.prog) w = .ok (.enter 65 args) w := Tri.callOf (by decide) Try.func65 rfl (by kernel_rfl) args w
theorem Tri.call66 (args : Array Value) (w : World) : (_root_.Go.callFunc 66 args).run (Tri Try.prog) w = .ok (.enter 66 args) w := Tri.callOf (by decide) Try.func66 rfl (by kernel_rfl) args w
theorem Tri.call68 (args : Array Value) (w : World) : (_root_.Go.callFunc 68 args).run (Tri Try.prog) w = .ok (.enter 68 args) w := Tri.callOf (by decide) Try.func68 rfl (by kernel_rfl) args w
theorem Tri.call69 (args : Array Value) (w : World) : (_root_.Go.callFunc 69 args).run (Tri Try.prog) w = .ok (.enter 69 args) w := Tri.callOf (by decide) Try.func69 rfl (by kernel_rfl) args w
theorem Tri.call70 (args : Array Value) (w : World) : (_root_.Go.callFunc 70 args).run (Tri Try.prog) w = .ok (.enter 70 args) w := Tri.callOf (by decide) Try.func70 rfl (by kernel_rfl) args w
theorem Tri.call71 (args : Array Value) (w : World) : (_root_.Go.callFunc 71 args).run (Tri Try.prog) w = .ok (.enter 71 args) w := Tri.callOf (by decide) Try.func71 rfl (by kernel_rfl) args w
theorem Tri.call72 (args : Array Value) (w : World) : (_root_.Go.callFunc 72 args).run (Tri Try.prog) w = .ok (.enter 72 args) w := Tri.callOf (by decide) Try.func72 rfl (by kernel_rfl) args w
theorem Tri.call73 (args : Array Value) (w : World) : (_root_.Go.callFunc 73 args).run (Tri Try.prog) w = .ok (.enter 73 args) w := Tri.callOf (by decide) Try.func73 rfl (by kernel_rfl) args w
theorem Tri.call74 (args : Array Value) (w : World) : (_root_.Go.callFunc 74 args).run (Tri Try.prog) w = .ok (.enter 74 args) w := Tri.callOf (by decide) Try.func74 rfl (by kernel_rfl) args w
theorem Tri.call75 (args : Array Value) (w : World) : (_root_.Go.callFunc 75 args).run (Tri Try.prog) w = .ok (.enter 75 args) w := Tri.callOf (by decide) Try.func75 rfl (by kernel_rfl) args w
theorem Tri.call82 (args : Array Value) (w : World) : (_root_.Go.callFunc 82 args).run (Tri Try.prog) w = .ok (.enter 82 args) w := Tri.callOf (by decide) Try.func82 rfl (by kernel_rfl) args w
theorem Tri.call84 (args : Array Value) (w : World) : (_root_.Go.callFunc 84 args).run (Tri Try.prog) w = .ok (.enter 84 args) w := Tri.callOf (by decide) Try.func84 rfl (by kernel_rfl) args w
theorem Tri.call85 (args : Array Value) (w : World) : (_root_.Go.callFunc 85 args).run (Tri Try.prog) w = .ok (.enter 85 args) w := Tri.callOf (by decide) Try.func85 rfl (by kernel_rfl) args w
theorem Tri.call86 (args : Array Value) (w : World) : (_root_.Go.callFunc 86 args).run (Tri Try.prog) w = .ok (.enter 86 args) w := Tri.callOf (by decide) Try.func86 rfl (by kernel_rfl) args w
theorem Tri.call95 (args : Array Value) (w : World) : (_root_.Go.callFunc 95 args).run (Tri Try.prog) w = .ok (.enter 95 args) w := Tri.callOf (by decide) Try.func95 rfl (by kernel_rfl) args w
theorem Tri.call101 (args : Array Value) (w : World) : (_root_.Go.callFunc 101 args).run (Tri Try.prog) w = .ok (.enter 101 args) w := Tri.callOf (by decide) Try.func101 rfl (by kernel_rfl) args w
theorem Tri.call106 (args : Array Value) (w : World) : (_root_.Go.callFunc 106 args).run (Tri Try.prog) w = .ok (.enter 106 args) w := Tri.callOf (by decide) Try.func106 rfl (by kernel_rfl) args w
theorem Tri.call107 (args : Array Value) (w : World) : (_root_.Go.callFunc 107 args).run (Tri Try.prog) w = .ok (.enter 107 args) w := Tri.callOf (by decide) Try.func107 rfl (by kernel_rfl) args w
theorem Tri.call116 (args : Array Value) (w : World) : (_root_.Go.callFunc 116 args).run (Tri Try.prog) w = .ok (.enter 116 args) w := Tri.callOf (by decide) Try.func116 rfl (by kernel_rfl) args w
theorem Tri.call117 (args : Array Value) (w : World) : (_root_.Go.callFunc 117 args).run (Tri Try.prog) w = .ok (.enter 117 args) w := Tri.callOf (by decide) Try.func117 rfl (by kernel_rfl) args w
theorem Tri.call118 (args : Array Value) (w : World) : (_root_.Go.callFunc 118 args).run (Tri Try.prog) w = .ok (.enter 118 args) w := Tri.callOf (by decide) Try.func118 rfl (by kernel_rfl) args w
theorem Tri.call119 (args : Array Value) (w : World) : (_root_.Go.callFunc 119 args).run (Tri Try.prog) w = .ok (.enter 119 args) w := Tri.callOf (by decide) Try.func119 rfl (by kernel_rfl) args w
theorem Tri.call120 (args : Array Value) (w : World) : (_root_.Go.callFunc 120 args).run (Tri Try.prog) w = .ok (.enter 120 args) w := Tri.callOf (by decide) Try.func120 rfl (by kernel_rfl) args w
theorem Tri.call122 (args : Array Value) (w : World) : (_root_.Go.callFunc 122 args).run (Tri Try.prog) w = .ok (.enter 122 args) w := Tri.callOf (by decide) Try.func122 rfl (by kernel_rfl) args w
theorem Tri.call123 (args : Array Value) (w : World) : (_root_.Go.callFunc 123 args).run (Tri Try.prog) w = .ok (.enter 123 args) w := Tri.callOf (by decide) Try.func123 rfl (by kernel_rfl) args w
theorem Tri.call124 (args : Array Value) (w : World) : (_root_.Go.callFunc 124 args).run (Tri Try.prog) w = .ok (.enter 124 args) w := Tri.callOf (by decide) Try.func124 rfl (by kernel_rfl) args w
theorem Tri.call125 (args : Array Value) (w : World) : (_root_.Go.callFunc 125 args).run (Tri Try.prog) w = .ok (.enter 125 args) w := Tri.callOf (by decide) Try.func125 rfl (by kernel_rfl) args w
theorem Tri.call126 (args : Array Value) (w : World) : (_root_.Go.callFunc 126 args).run (Tri Try.prog) w = .ok (.enter 126 args) w := Tri.callOf (by decide) Try.func126 rfl (by kernel_rfl) args w
theorem Tri.call135 (args : Array Value) (w : World) : (_root_.Go.callFunc 135 args).run (Tri Try.prog) w = .ok (.enter 135 args) w := Tri.callOf (by decide) Try.func135 rfl (by kernel_rfl) args w
theorem Tri.call137 (args : Array Value) (w : World) : (_root_.Go.callFunc 137 args).run (Tri Try.prog) w = .ok (.enter 137 args) w := Tri.callOf (by decide) Try.func137 rfl (by kernel_rfl) args w
theorem Tri.call143 (args : Array Value) (w : World) : (_root_.Go.callFunc 143 args).run (Tri Try.prog) w = .ok (.enter 143 args) w := Tri.callOf (by decide) Try.func143 rfl (by kernel_rfl) args w
theorem Tri.call144 (args : Array Value) (w : World) : (_root_.Go.callFunc 144 args).run (Tri Try.prog) w = .ok (.enter 144 args) w := Tri.callOf (by decide) Try.func144 rfl (by kernel_rfl) args w
theorem Tri.call145 (args : Array Value) (w : World) : (_root_.Go.callFunc 145 args).run (Tri Try.prog) w = .ok (.enter 145 args) w := Tri.callOf (by decide) Try.func145 rfl (by kernel_rfl) args w
theorem Tri.call146 (args : Array Value) (w : World) : (_root_.Go.callFunc 146 args).run (Tri Try.prog) w = .ok (.enter 146 args) w := Tri.callOf (by decide) Try.func146 rfl (by kernel_rfl) args w
theorem Tri.call147 (args : Array Value) (w : World) : (_root_.Go.callFunc 147 args).run (Tri Try.prog) w = .ok (.enter 147 args) w := Tri.callOf (by decide) Try.func147 rfl (by kernel_rfl) args w
theorem Tri.call149 (args : Array Value) (w : World) : (_root_.Go.callFunc 149 args).run (Tri Try.prog) w = .ok (.enter 149 args) w := Tri.callOf (by decide) Try.func149 rfl (by kernel_rfl) args w
theorem Tri.call150 (args : Array Value) (w : World) : (_root_.Go.callFunc 150 args).run (Tri Try.prog) w = .ok (.enter 150 args) w := Tri.callOf (by decide) Try.func150 rfl (by kernel_rfl) args w
theorem Tri.call151 (args : Array Value) (w : World) : (_root_.Go.callFunc 151 args).run (Tri Try.prog) w = .ok (.enter 151 args) w := Tri.callOf (by decide) Try.func151 rfl (by kernel_rfl) args w
theorem Tri.call152 (args : Array Value) (w : World) : (_root_.Go.callFunc 152 args).run (Tri Try.prog) w = .ok (.enter 152 args) w := Tri.callOf (by decide) Try.func152 rfl (by kernel_rfl) args w
theorem Tri.call156 (args : Array Value) (w : World) : (_root_.Go.callFunc 156 args).run (Tri Try.prog) w = .ok (.enter 156 args) w := Tri.callOf (by decide) Try.func156 rfl (by kernel_rfl) args w
theorem Tri.call157 (args : Array Value) (w : World) : (_root_.Go.callFunc 157 args).run (Tri Try.prog) w = .ok (.enter 157 args) w := Tri.callOf (by decide) Try.func157 rfl (by kernel_rfl) args w
theorem Tri.call159 (args : Array Value) (w : World) : (_root_.Go.callFunc 159 args).run (Tri Try.prog) w = .ok (.enter 159 args) w := Tri.callOf (by decide) Try.func159 rfl (by kernel_rfl) args w
theorem Tri.call160 (args : Array Value) (w : World) : (_root_.Go.callFunc 160 args).run (Tri Try.prog) w = .ok (.enter 160 args) w := Tri.callOf (by decide) Try.func160 rfl (by kernel_rfl) args w
theorem Tri.call161 (args : Array Value) (w : World) : (_root_.Go.callFunc 161 args).run (Tri Try.prog) w = .ok (.enter 161 args) w := Tri.callOf (by decide) Try.func161 rfl (by kernel_rfl) args w
theorem Tri.call162 (args : Array Value) (w : World) : (_root_.Go.callFunc 162 args).run (Tri Try.prog) w = .ok (.enter 162 args) w := Tri.callOf (by decide) Try.func162 rfl (by kernel_rfl) args w
theorem Tri.call163 (args : Array Value) (w : World) : (_root_.Go.callFunc 163 args).run (Tri Try.prog) w = .ok (.enter 163 args) w := Tri.callOf (by decide) Try.func163 rfl (by kernel_rfl) args w
theorem Tri.call164 (args : Array Value) (w : World) : (_root_.Go.callFunc 164 args).run (Tri Try.prog) w = .ok (.enter 164 args) w := Tri.callOf (by decide) Try.func164 rfl (by kernel_rfl) args w
theorem Tri.call165 (args : Array Value) (w : World) : (_root_.Go.callFunc 165 args).run (Tri Try.prog) w = .ok (.enter 165 args) w := Tri.callOf (by decide) Try.func165 rfl (by kernel_rfl) args w
theorem Tri.call166 (args : Array Value) (w : World) : (_root_.Go.callFunc 166 args).run (Tri Try.prog) w = .ok (.enter 166 args) w := Tri.callOf (by decide) Try.func166 rfl (by kernel_rfl) args w
theorem Tri.call167 (args : Array Value) (w : World) : (_root_.Go.callFunc 167 args).run (Tri Try.prog) w = .ok (.enter 167 args) w := Tri.callOf (by decide) Try.func167 rfl (by kernel_rfl) args w
theorem Tri.call175 (args : Array Value) (w : World) : (_root_.Go.callFunc 175 args).run (Tri Try.prog) w = .ok (.enter 175 args) w := Tri.callOf (by decide) Try.func175 rfl (by kernel_rfl) args w
theorem Tri.call176 (args : Array Value) (w : World) : (_root_.Go.callFunc 176 args).run (Tri Try.prog) w = .ok (.enter 176 args) w := Tri.callOf (by decide) Try.func176 rfl (by kernel_rfl) args w
theorem Tri.call178 (args : Array Value) (w : World) : (_root_.Go.callFunc 178 args).run (Tri Try.prog) w = .ok (.enter 178 args) w := Tri.callOf (by decide) Try.func178 rfl (by kernel_rfl) args w
theorem Tri.call179 (args : Array Value) (w : World) : (_root_.Go.callFunc 179 args).run (Tri Try.prog) w = .ok (.enter 179 args) w := Tri.callOf (by decide) Try.func179 rfl (by kernel_rfl) args w
theorem Tri.call180 (args : Array Value) (w : World) : (_root_.Go.callFunc 180 args).run (Tri Try.prog) w = .ok (.enter 180 args) w := Tri.callOf (by decide) Try.func180 rfl (by kernel_rfl) args w
theorem Tri.call181 (args : Array Value) (w : World) : (_root_.Go.callFunc 181 args).run (Tri Try.prog) w = .ok (.enter 181 args) w := Tri.callOf (by decide) Try.func181 rfl (by kernel_rfl) args w
theorem Tri.call182 (args : Array Value) (w : World) : (_root_.Go.callFunc 182 args).run (Tri Try.prog) w = .ok (.enter 182 args) w := Tri.callOf (by decide) Try.func182 rfl (by kernel_rfl) args w
theorem Tri.call183 (args : Array Value) (w : World) : (_root_.Go.callFunc 183 args).run (Tri Try.prog) w = .ok (.enter 183 args) w := Tri.callOf (by decide) Try.func183 rfl (by kernel_rfl) args w
theorem Tri.call186 (args : Array Value) (w : World) : (_root_.Go.callFunc 186 args).run (Tri Try.prog) w = .ok (.enter 186 args) w := Tri.callOf (by decide) Try.func186 rfl (by kernel_rfl) args w
theorem Tri.call187 (args : Array Value) (w : World) : (_root_.Go.callFunc 187 args).run (Tri Try.prog) w = .ok (.enter 187 args) w := Tri.callOf (by decide) Try.func187 rfl (by kernel_rfl) args w
theorem Tri.call188 (args : Array Value) (w : World) : (_root_.Go.callFunc 188 args).run (Tri Try.prog) w = .ok (.enter 188 args) w := Tri.callOf (by decide) Try.func188 rfl (by kernel_rfl) args w
theorem Tri.call205 (args : Array Value) (w : World) : (_root_.Go.callFunc 205 args).run (Tri Try.prog) w = .ok (.enter 205 args) w := Tri.callOf (by decide) Try.func205 rfl (by kernel_rfl) args w
end Go.Proofs.Ytpeoabopeihadaa
