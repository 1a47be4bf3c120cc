/-
  What the form says of a number of 64 bits; the form's reach.
-/
import Derived.Test.YtamjcghdebjpjaaLift
namespace Go.Proofs.Ytamjcghdebjpjaa
theorem i64_wf {n : Int} (h : (Lit.int .i64 n).wf = true) : -9223372036854775808 ≤ n ∧ n ≤ 9223372036854775807 := by
  simp [Lit.wf, IntKind.wrap] at h
  have h1 : IntKind.i64.min = -9223372036854775808 := rfl
  have h2 : IntKind.i64.max = 9223372036854775807 := rfl
  omega
theorem reach_is : reachBytes = 140737488351232 := rfl
end Go.Proofs.Ytamjcghdebjpjaa
