/-
  Replies: which may be.
  Pure.
-/
import Derived.Test.YtbcdmmhbmjjooaaValM
set_option linter.unusedSimpArgs false
set_option linter.unusedVariables false
namespace Go.Proofs.Ytbcdmmhbmjjooaa
namespace Sto
/-- A reply. -/
structure Rp where
  e : Int
  v : Val.V
  deriving DecidableEq
def rep (r : Rp) : Bool := decide (0 ≤ r.e) && decide (r.e ≤ 18) && decide (Val.chk r.v = 0)
def rz : Rp := ⟨0, ⟨0, 0, 0, ⟨#[]⟩⟩⟩
def err (e : Int) : Rp := ⟨e, ⟨0, 0, 0, ⟨#[]⟩⟩⟩
end Sto
end Go.Proofs.Ytbcdmmhbmjjooaa
