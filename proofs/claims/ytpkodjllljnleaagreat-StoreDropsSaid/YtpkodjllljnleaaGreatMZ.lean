/- What the document's Find returns: the first place of a name, or -1. No condition but those named. -/
import Derived.Test.YtpkodjllljnleaaGreatMO
import Derived.Test.YtpkodjllljnleaaGreatMY
import Derived.Test.YtpkodjllljnleaaGreatMP
set_option linter.unusedSimpArgs false
set_option linter.unusedVariables false
namespace Go.Proofs.YtpkodjllljnleaaGreat
open Go.RowKit
end Go.Proofs.YtpkodjllljnleaaGreat
namespace Go.Proofs.YtpkodjllljnleaaGreat
open Go.RowKit
theorem exec_ier {w : World} {o : Oper} {a : Act} {x k : Int} {b : Bool} (p : Operand) (ho : o.op = .binOp .eql 3 p (.const (.int .i64 k)) 3) (hp : a.eval p = .int .i64 x) (hb : decide (x = k) = b) :
  (execOp a.eval o).run Tryz.prog w = .ok (.value (.bool b)) w := by
 have he : a.eval (.const (.int .i64 k)) = .int .i64 k := rfl
 subst hb
 unfold execOp
 simp only [ho, hp, he]
 go_simp
 try rfl
end Go.Proofs.YtpkodjllljnleaaGreat
namespace Go.Proofs.YtpkodjllljnleaaGreat
open Go.RowKit
theorem exec_ixo0 {w : World} {o : Oper} {a : Act} {b n c i : Nat} (q r : Operand) (ho : o.op = .indexAddr 22 q r) (hx : a.eval q = .slice (some ⟨b, 0, none⟩) n c) (hq : a.eval r = .int .i64 (i : Int)) (h : i < n) :
  (execOp a.eval o).run Tryz.prog w = .ok (.value (.pointer (some ⟨b, i * 11, none⟩))) w := by
 have h1 := exec_ixo (w := w) (off := 0) q r ho hx hq h
 rwa [Nat.zero_add] at h1
end Go.Proofs.YtpkodjllljnleaaGreat
namespace Go.Proofs.YtpkodjllljnleaaGreat
open Go.RowKit
end Go.Proofs.YtpkodjllljnleaaGreat
