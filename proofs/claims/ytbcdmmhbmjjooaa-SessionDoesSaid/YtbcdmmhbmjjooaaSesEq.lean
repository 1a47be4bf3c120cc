/-
  A table compared with itself.
  No condition.
-/
import Derived.Test.YtbcdmmhbmjjooaaSesLay
set_option linter.unusedSimpArgs false
set_option linter.unusedVariables false
set_option maxRecDepth 100000
namespace Go.Proofs.Ytbcdmmhbmjjooaa
open Go.RowKit

theorem cells_se : Try.prog.cellsOf 29 = 9 := by kernel_rfl
theorem run_seq (s : Ses.S) (w : World) : (Op.equalIn 9999 29 (.agg (seA s)) (.agg (seA s))).run Try.prog w = .ok true w := by
  unfold seA
  go_simp
theorem part_0 (t : Ses.T) (w : World) : (part 29 (tbA t) (0 * 9)).run Try.prog w = .ok (.agg (seA t.s0)) w := by kernel_rfl
theorem part_1 (t : Ses.T) (w : World) : (part 29 (tbA t) (1 * 9)).run Try.prog w = .ok (.agg (seA t.s1)) w := by kernel_rfl
theorem part_2 (t : Ses.T) (w : World) : (part 29 (tbA t) (2 * 9)).run Try.prog w = .ok (.agg (seA t.s2)) w := by kernel_rfl
theorem part_3 (t : Ses.T) (w : World) : (part 29 (tbA t) (3 * 9)).run Try.prog w = .ok (.agg (seA t.s3)) w := by kernel_rfl
theorem part_4 (t : Ses.T) (w : World) : (part 29 (tbA t) (4 * 9)).run Try.prog w = .ok (.agg (seA t.s4)) w := by kernel_rfl
theorem run_teq (t : Ses.T) (w : World) : (Op.equalIn 10000 30 (.agg (tbA t)) (.agg (tbA t))).run Try.prog w = .ok true w := by
  obtain ⟨i, hi⟩ : ∃ i, Try.prog.info? 29 = some i := Option.isSome_iff_exists.1 (by kernel_rfl)
  rw [run_equalIn_array w 9999 _ _ Try.underlying30 hi, cells_se]
  simp only [List.range, List.range.loop, Op.eqItems, Sem.run_bind, part_0, part_1, part_2, part_3, part_4, run_seq, Result.andThen_ok, Bool.not_true, Bool.false_eq_true, if_false, Sem.run_pure]
theorem exec_tbE {w : World} {o : Oper} {a : Act} {t : Ses.T} (x y : Operand) (ho : o.op = .binOp .eql 30 x y 30) (hx : a.eval x = .agg (tbA t)) (hy : a.eval y = .agg (tbA t)) :
    (execOp a.eval o).run Try.prog w = .ok (.value (.bool true)) w := by
  have h := run_teq t
  unfold execOp
  simp only [ho, hx, hy]
  go_simp
end Go.Proofs.Ytbcdmmhbmjjooaa
