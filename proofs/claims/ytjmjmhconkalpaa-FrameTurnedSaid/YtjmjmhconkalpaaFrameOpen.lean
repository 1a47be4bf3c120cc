/-
  An argument that is a place and what is turned there: what the form says of it.
  No condition but the form's own.
-/
import Derived.Lib.SmallJoins
import Derived.Test.YtjmjmhconkalpaaLift
import Derived.Test.YtjmjmhconkalpaaRows
import Derived.Deep.Slices
import Derived.Deep.Fields
import Derived.KernelRfl
namespace Go.Proofs.Ytjmjmhconkalpaa
open Go.ChangeShapes Go.WideShapes Go.Deep Go.RowKit

set_option maxRecDepth 100000
section
variable {H : Type} {enc : TypeId × Value → H} {W : World} {base : Nat}
theorem Lift.Given.turn {ts : List TypeId} {args : List Value} {ds : List (DataW H)} {before : List MemPlace} (h : Lift.Given enc Try.prog (34 :: ts) W base args ds before) :
    ∃ (a u : Int) (vs : List Value) (d : DataW H) (ds' : List (DataW H)) (q : List MemPlace), args = .agg #[.int .i64 a, .int .u32 u] :: vs ∧ ds = d :: ds' ∧ (Lit.int .u32 u).wf = true ∧ Lift.Given enc Try.prog ts W base vs ds' q := by
  obtain ⟨v, vs, d, ds', p, q, rfl, rfl, rfl, h0, hok, _, hw, hg⟩ := h.cons
  obtain ⟨v0, v1, y0, y1, n, rfl, rfl, _, f0, f1⟩ := Go.Joins.open_agg2 Try.underlying34 (by kernel_rfl) (by kernel_rfl) hok h0
  obtain ⟨k, e0, g0, w0⟩ := DataW.trod_int Try.underlying3 f0
  obtain ⟨m, e1, g1, w1⟩ := DataW.trod_int Try.underlying32 f1
  cases e0; cases e1
  subst g0 g1
  exact ⟨k, m, vs, _, ds', q, rfl, rfl, w1, hg⟩
end
end Go.Proofs.Ytjmjmhconkalpaa
