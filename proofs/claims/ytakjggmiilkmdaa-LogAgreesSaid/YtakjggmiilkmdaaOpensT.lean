/-
  Arguments that are structs without a slice type.
  No condition but the form's own.
-/
import Derived.Test.YtakjggmiilkmdaaRows
import Derived.Test.YtakjggmiilkmdaaLayOpen
set_option maxRecDepth 100000
namespace Go.Proofs.Ytakjggmiilkmdaa
open Go.ChangeShapes Go.WideShapes Go.Deep Go.RowKit

section
variable {H : Type} {enc : TypeId × Value → H} {W : World} {base : Nat} {α : Type}
/-- A thing's cells are read: they are some thing's, and of it this holds. -/
def OpensT (enc : TypeId × Value → H) (e : TypeId) (f : α → List Value) (Good : α → Prop) : Prop :=
  ∀ (W : World) (n : Nat) (cs : List Value) (x : DataW H × List MemPlace), DataW.trod enc Try.prog W 0 (fun _ => true) true n e cs = some x → ∃ it : α, cs = f it ∧ Good it
theorem Lift.Given.one {e : TypeId} {f : α → List Value} {Good : α → Prop} (hop : OpensT enc e f Good) {fs : Array Field} (hs : Try.prog.underlying e = some (.struct fs))
    {ts : List TypeId} {args : List Value} {ds : List (DataW H)} {before : List MemPlace} (h : Lift.Given enc Try.prog (e :: ts) W base args ds before) :
    ∃ (x : α) (vs : List Value) (d : DataW H) (ds' : List (DataW H)) (q : List MemPlace), args = .agg (f x).toArray :: vs ∧ ds = d :: ds' ∧ Good x ∧ Lift.Given enc Try.prog ts W base vs ds' q := by
  obtain ⟨v, vs, d, ds', p, q, rfl, rfl, rfl, h0, hok, _, hw, hg⟩ := h.cons
  obtain ⟨fuel, h0⟩ := h0
  obtain ⟨cs, rfl, hsz⟩ := okWide_struct hs hok
  obtain ⟨it, hit, hgd⟩ := hop W _ _ _ h0
  refine ⟨it, vs, d, ds', q, ?_, rfl, hgd, hg⟩
  have hc : cs.toList = f it := by simpa [Value.cells] using hit
  rw [← hc]
end
end Go.Proofs.Ytakjggmiilkmdaa
