/- Replies and truth values that are compared with themselves; where rows are known. No condition but those named. -/
import Derived.Test.YtpkodjllljnleaaGreatML
import Derived.Test.YtpkodjllljnleaaGreatMR
set_option linter.unusedSimpArgs false
set_option linter.unusedVariables false
namespace Go.Proofs.YtpkodjllljnleaaGreat
open Go.RowKit
def InR (Rk : List RowE) (W : World) : Prop := ∃ (b : Nat) (W0 : World) (L : List (Nat × TypeId × Array Value)) (R : List RowE), Kn b W0 W L R ∧ ∀ y ∈ Rk, y ∈ R
section
variable {w : World} {o : Oper} {a : Act}
theorem exec_rpq {x : Sto.Rp} (p q : Operand) (ho : o.op = .binOp .eql 33 p q 33) (hx : a.eval p = .agg (rpA x)) (hy : a.eval q = .agg (rpA x)) :
  (execOp a.eval o).run Tryz.prog w = .ok (.value (.bool true)) w := by
 unfold rpA at hx hy
 unfold execOp
 simp only [ho, hx, hy]
 go_simp
theorem exec_rpN {x : Sto.Rp} (p q : Operand) (ho : o.op = .binOp .neq 33 p q 33) (hx : a.eval p = .agg (rpA x)) (hy : a.eval q = .agg (rpA x)) :
  (execOp a.eval o).run Tryz.prog w = .ok (.value (.bool false)) w := by
 unfold rpA at hx hy
 unfold execOp
 simp only [ho, hx, hy]
 go_simp
theorem exec_bq {x : Bool} (p q : Operand) (ho : o.op = .binOp .eql 4 p q 4) (hp : a.eval p = .bool x) (hq : a.eval q = .bool x) :
  (execOp a.eval o).run Tryz.prog w = .ok (.value (.bool true)) w := by
 unfold execOp
 simp only [ho, hp, hq]
 go_simp
theorem exec_bn {x : Bool} (p q : Operand) (ho : o.op = .binOp .neq 4 p q 4) (hp : a.eval p = .bool x) (hq : a.eval q = .bool x) :
  (execOp a.eval o).run Tryz.prog w = .ok (.value (.bool false)) w := by
 unfold execOp
 simp only [ho, hp, hq]
 go_simp
end
end Go.Proofs.YtpkodjllljnleaaGreat
