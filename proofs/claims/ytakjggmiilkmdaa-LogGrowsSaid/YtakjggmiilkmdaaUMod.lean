/-
  Numbers as uint64, remainders, and back.
  No condition but those named.
-/
import Derived.Test.YtakjggmiilkmdaaJPut
set_option linter.unusedSimpArgs false
set_option linter.unusedVariables false
set_option maxRecDepth 100000
namespace Go.Proofs.Ytakjggmiilkmdaa
open Go.RowKit

section
variable {w : World} {o : Oper} {a : Act}
/-- A number as a uint64, a remainder, and back. -/
theorem exec_iu {x : Int} {u : Nat} (p : Operand) (ho : o.op = .convert 3 29 p) (hp : a.eval p = .int .i64 x) (hu : IntKind.u64.wrap x = (u : Int)) :
    (execOp a.eval o).run Try.prog w = .ok (.value (.int .u64 (u : Int))) w := by
  unfold execOp
  simp only [ho, hp]
  go_simp
theorem exec_urem {u n : Nat} (p q : Operand) (ho : o.op = .binOp .rem 29 p q 29) (hp : a.eval p = .int .u64 (u : Int)) (hq : a.eval q = .int .u64 (n : Int)) (h0 : 0 < n) (hn : n < 18446744073709551616) :
    (execOp a.eval o).run Try.prog w = .ok (.value (.int .u64 ((u % n : Nat) : Int))) w := by
  have h1 : ¬ (n : Int) = 0 := by omega
  have h1b : ((n : Int) == 0) = false := beq_eq_false_iff_ne.2 h1
  have h2 : (u : Int).tmod (n : Int) = ((u % n : Nat) : Int) := rfl
  have h3 : u % n < n := Nat.mod_lt _ h0
  have h4 : IntKind.u64.wrap ((u % n : Nat) : Int) = ((u % n : Nat) : Int) := by rw [IntKind.wrap_u64]; omega
  unfold execOp
  simp only [ho, hp, hq]
  go_simp
  exact Nat.ne_of_gt h0
theorem exec_ui {u : Nat} (p : Operand) (ho : o.op = .convert 29 3 p) (hp : a.eval p = .int .u64 (u : Int)) (hu : u < 9223372036854775808) :
    (execOp a.eval o).run Try.prog w = .ok (.value (.int .i64 (u : Int))) w := by
  have h1 : IntKind.i64.wrap (u : Int) = (u : Int) := by rw [IntKind.wrap_i64]; omega
  unfold execOp
  simp only [ho, hp]
  go_simp
end
theorem u64_of (x : Int) : ∃ u : Nat, IntKind.u64.wrap x = (u : Int) := by
  refine ⟨(IntKind.u64.wrap x).toNat, ?_⟩
  rw [IntKind.wrap_u64]
  omega
end Go.Proofs.Ytakjggmiilkmdaa
