/-
  Operations on numbers and cells, each by its result; ways out.
  No condition but those named.
-/
import Derived.Test.YtfganmbjaglmiaaRows
import Derived.Test.YtfganmbjaglmiaaKn
import Derived.Test.YtfganmbjaglmiaaLayOpen
import Derived.Deep.RegionWith
import Derived.Deep.RegionHeld3
import Derived.Deep.Draws
import Derived.Lib.Hide
set_option linter.unusedSimpArgs false
set_option linter.unusedVariables false
namespace Go.Proofs.Ytfganmbjaglmiaa
open Go.RowKit

def IsB (b : Bool) (w : World) (e : Ending) (w' : World) : Prop := e = .returned (.bool b) ∧ Below w.heap.size w w'
section
variable {w : World} {ops : Array Oper} {rest : List Oper} {o : Oper} {a : Act} {Q : Exit → Act → World → Prop}
theorem exec_sub1 {j : Nat} (p : Operand) (ho : o.op = .binOp .sub 3 p (.const (.int .i64 1)) 3) (hp : a.eval p = .int .i64 ((j + 1 : Nat) : Int)) (h : j < 9223372036854775807) :
    (execOp a.eval o).run Try.prog w = .ok (.value (.int .i64 (j : Int))) w := by
  have hw : IntKind.i64.wrap (j : Int) = (j : Int) := by rw [IntKind.wrap_i64]; omega
  have he : a.eval (.const (.int .i64 1)) = .int .i64 1 := rfl
  unfold execOp
  simp only [ho, hp, he]
  go_simp
theorem exec_add1 {j : Nat} (p : Operand) (ho : o.op = .binOp .add 3 p (.const (.int .i64 1)) 3) (hp : a.eval p = .int .i64 (j : Int)) (h : j < 9223372036854775807) :
    (execOp a.eval o).run Try.prog w = .ok (.value (.int .i64 ((j + 1 : Nat) : Int))) w := by
  have hw : IntKind.i64.wrap ((j : Int) + 1) = (j : Int) + 1 := by rw [IntKind.wrap_i64]; omega
  have he : a.eval (.const (.int .i64 1)) = .int .i64 1 := rfl
  unfold execOp
  simp only [ho, hp, he]
  go_simp
theorem exec_cell {ad : Addr} {v : Value} {ty : TypeId} {d : TypeDesc} (p : Operand) (ho : o.op = .load ty p) (hx : a.eval p = .pointer (some ad)) (hc : w.cell? ad = some v) (hu : Try.prog.underlying ty = some d) (hd : d.isRow = false) :
    (execOp a.eval o).run Try.prog w = .ok (.value v) w := by
  have hagg : (isAgg ty).run Try.prog w = .ok false w := by
    unfold isAgg
    rw [Sem.run_bind, run_underlying hu w]
    cases d <;> simp_all
  have h : (loadVar ty ad).run Try.prog w = .ok v w := by
    simp [loadVar, Sem.run_bind, hagg, hc]
  unfold execOp
  simp only [ho, hx, Instr.loadAt, Instr.sureAddr, Sem.run_bind, Sem.run_pure, Result.andThen_ok, h]
theorem wpList_exe {P : Program} {w : World} {v : Value} (hr : (execOp a.eval o).run P w = .ok (.value v) w) (hw : Region.wanted o (yielded ops a.tmps) = true) (h : wpList P ops Q rest (a.put o.dst v) w) : wpList P ops Q (o :: rest) a w :=
  wpList_of_exec hw hr h
theorem exec_gt {x k : Int} {b : Bool} (p : Operand) (ho : o.op = .binOp .gtr 3 p (.const (.int .i64 k)) 3) (hp : a.eval p = .int .i64 x) (hb : decide (k < x) = b) :
    (execOp a.eval o).run Try.prog w = .ok (.value (.bool b)) w := by
  have he : a.eval (.const (.int .i64 k)) = .int .i64 k := rfl
  subst hb
  unfold execOp
  simp only [ho, hp, he]
  go_simp
end
theorem ret_t2 {fn : Func} {R : Ending → World → Prop} {a : Act} {w : World} {u z : Value} {q q2 : Tmp} (hf : fn.results = #[.tmp q, .tmp q2]) (h3 : a.tmps[q]? = some u) (h4 : a.tmps[q2]? = some z) (hd : a.defers = [])
    (hR : R (.returned (.tuple #[u, z])) w) : bodyPost Try.prog fn R Exit.ret a w := by
  refine bodyPost_ret (v := .tuple #[u, z]) ?_ hd hR
  simp [results, hf, Sem.run_bind, h3, h4]
theorem ret_t3 {fn : Func} {R : Ending → World → Prop} {a : Act} {w : World} {u z y : Value} {q q2 q3 : Tmp} (hf : fn.results = #[.tmp q, .tmp q2, .tmp q3]) (h3 : a.tmps[q]? = some u) (h4 : a.tmps[q2]? = some z) (h5 : a.tmps[q3]? = some y) (hd : a.defers = [])
    (hR : R (.returned (.tuple #[u, z, y])) w) : bodyPost Try.prog fn R Exit.ret a w := by
  refine bodyPost_ret (v := .tuple #[u, z, y]) ?_ hd hR
  simp [results, hf, Sem.run_bind, h3, h4, h5]
/-- What is stepped over in a region that draws. -/
theorem step_of_exec {P : Program} {ops : Array Oper} {o : Oper} {a : Act} {w : World} {K : Act → World → Prop} {Q : Exit → Act → World → Prop} {E : Prop} {v : Value} (hw : Region.wanted o (yielded ops a.tmps) = true) (hr : (execOp a.eval o).run P w = .ok (.value v) w) (h : K (a.put o.dst v) w) :
    if Region.wanted o (yielded ops a.tmps) = true then Oper.wp P o a w K Q else E := by
  rw [if_pos hw]
  unfold Oper.wp
  rw [hr, Oper.upon_value]
  exact h
end Go.Proofs.Ytfganmbjaglmiaa
