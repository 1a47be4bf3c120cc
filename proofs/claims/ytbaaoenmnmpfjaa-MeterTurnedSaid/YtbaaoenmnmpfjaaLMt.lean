/-
  Arguments that are meters; the laws at numbers that were handed in.
  No condition but the form's own.
-/
import Derived.Test.YtbaaoenmnmpfjaaMtLay
set_option linter.unusedSimpArgs false
set_option linter.unusedVariables false
namespace Go.Proofs.Ytbaaoenmnmpfjaa
open Go.ChangeShapes Go.WideShapes Go.Deep Go.RowKit

section
variable {H : Type} {enc : TypeId × Value → H} {W : World} {base : Nat}
theorem Lift.Given.mt {ts : List TypeId} {args : List Value} {ds : List (DataW H)} {before : List MemPlace} (h : Lift.Given enc Try.prog (24 :: ts) W base args ds before) :
    ∃ (x : Mtr) (vs : List Value) (d : DataW H) (ds' : List (DataW H)) (q : List MemPlace), args = .agg (mL x).toArray :: vs ∧ ds = d :: ds' ∧ Mt.Fit x ∧ Lift.Given enc Try.prog ts W base vs ds' q := h.one opens_mt Try.underlying24
end
/-- A law of what is said of a number as it was handed in. -/
theorem of_u64 {C : Int → Prop} (h : ∀ b : Nat, b < 18446744073709551616 → C (b : Int)) (b : Int) (hw : (Lit.int .u64 b).wf = true) : C b := by
  obtain ⟨k, rfl, hk⟩ := u64_lt hw
  exact h k hk
end Go.Proofs.Ytbaaoenmnmpfjaa
