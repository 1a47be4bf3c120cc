/-
  How events' items lie behind one another; a load of an event out of a slice.
  No condition but that floats' bits fit 64, and a bound on how many.
-/
import Derived.Test.YtcofjaeljglodaaCmdItems
import Derived.Test.YtcofjaeljglodaaCmdRItems
import Derived.Test.YtcofjaeljglodaaLEv
set_option linter.unusedSimpArgs false
set_option linter.unusedVariables false
namespace Go.Proofs.Ytcofjaeljglodaa
open Go.RowKit

namespace Cmd
/-- How many, and each one's items. -/
def pre (n : Nat) (l : List E) : List Itm.It := ⟨0, n, ⟨#[]⟩⟩ :: l.flatMap items
theorem pre_nil (n : Nat) : pre n [] = [⟨0, n, ⟨#[]⟩⟩] := rfl
theorem pre_more (n : Nat) {l : List E} {k : Nat} {x : E} (h : l[k]? = some x) : pre n (l.take (k + 1)) = pre n (l.take k) ++ items x := by
  unfold pre
  rw [Lay.take_succ h, List.flatMap_append]
  simp
end Cmd
theorem items_le12 (e : Cmd.E) : (Cmd.items e).length ≤ 12 := by
  have h1 := ritems_len e.cmd.val
  have h2 := ritems_len e.cmd.old
  unfold Cmd.items
  simp only [List.length_append, List.length_cons, List.length_nil]
  omega
theorem pre_len (n : Nat) : ∀ l : List Cmd.E, (Cmd.pre n l).length ≤ 1 + 12 * l.length
  | [] => by simp [Cmd.pre]
  | x :: r => by
    have := pre_len n r
    have := items_le12 x
    simp only [Cmd.pre, List.flatMap_cons, List.length_cons, List.length_append] at *
    omega
section
variable {o : Oper} {a : Act} {w : World} {x : Cmd.E} {b off : Nat}
theorem exec_lev (p : Operand) (ho : o.op = .load 34 p) (hx : a.eval p = .pointer (some ⟨b, off, none⟩)) (hc : ∀ j v, (evL x)[j]? = some v → w.cell? ⟨b, off + j, none⟩ = some v) :
    (execOp a.eval o).run Try.prog w = .ok (.value (.agg (evA x))) w := by
  have hr : w.rangeAt b off (evA x).toList := fun j v hj => hc j v hj
  have h := run_loadVar_mid (P := Try.prog) w b off 34 (evA x).toList _ hr Try.underlying34 rfl (by
    have h : (Try.prog.info? 34).map (·.size) = some (evA x).size := info_ev
    simpa using h)
  unfold execOp
  simp only [ho, hx, Instr.loadAt, Instr.sureAddr, Sem.run_bind, Sem.run_pure, Result.andThen_ok, h, Array.toArray_toList]
theorem evs_at {w : World} {B b o k : Nat} {l : List Cmd.E} {x : Cmd.E} (hi : evLay.Reads w B (some ⟨b, o, none⟩) l) (hx : l[k]? = some x) : ∀ j v, (evL x)[j]? = some v → w.cell? ⟨b, o + k * 16 + j, none⟩ = some v := fun j v hv => by
  have hk : 0 < l.length := by
    have := (List.getElem?_eq_some_iff.1 hx).1
    omega
  exact (hi.block hk).2 k x hx j v hv
end
end Go.Proofs.Ytcofjaeljglodaa
