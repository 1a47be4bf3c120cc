/-
  An event in a slice: its load, its cells.
  No condition but those named.
-/
import Derived.Test.YtakjggmiilkmdaaLEv
set_option linter.unusedSimpArgs false
set_option linter.unusedVariables false
namespace Go.Proofs.Ytakjggmiilkmdaa
open Go.RowKit

section
variable {o : Oper} {a : Act} {w : World} {x : Cmd.E} {b off : Nat}
theorem exec_lev (p : Operand) (ho : o.op = .load 35 p) (hx : a.eval p = .pointer (some ⟨b, off, none⟩)) (hc : ∀ j v, (evL x)[j]? = some v → w.cell? ⟨b, off + j, none⟩ = some v) :
    (execOp a.eval o).run Try.prog w = .ok (.value (.agg (evA x))) w := by
  have hr : w.rangeAt b off (evA x).toList := fun j v hj => hc j v hj
  have h := run_loadVar_mid (P := Try.prog) w b off 35 (evA x).toList _ hr Try.underlying35 rfl (by
    have h : (Try.prog.info? 35).map (·.size) = some (evA x).size := info_ev
    simpa using h)
  unfold execOp
  simp only [ho, hx, Instr.loadAt, Instr.sureAddr, Sem.run_bind, Sem.run_pure, Result.andThen_ok, h, Array.toArray_toList]
theorem evs_at {w : World} {B b o k : Nat} {l : List Cmd.E} {x : Cmd.E} (hi : evLay.Reads w B (some ⟨b, o, none⟩) l) (hx : l[k]? = some x) : ∀ j v, (evL x)[j]? = some v → w.cell? ⟨b, o + k * 16 + j, none⟩ = some v := fun j v hv => by
  have hk : 0 < l.length := by
    have := (List.getElem?_eq_some_iff.1 hx).1
    omega
  exact (hi.block hk).2 k x hx j v hv
end
end Go.Proofs.Ytakjggmiilkmdaa
