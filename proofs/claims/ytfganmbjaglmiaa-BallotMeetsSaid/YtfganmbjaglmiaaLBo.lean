/-
  Arguments that are slices of bools.
  No condition but the form's own.
-/
import Derived.Test.YtfganmbjaglmiaaBoLay
import Derived.OpenShut
import Derived.KernelRfl
set_option linter.unusedSimpArgs false
set_option linter.unusedVariables false
set_option maxRecDepth 100000
namespace Go.Proofs.Ytfganmbjaglmiaa
open Go.ChangeShapes Go.WideShapes Go.Deep Go.RowKit

section
variable {H : Type} {enc : TypeId × Value → H} {W : World} {base : Nat}
theorem cells_b : Try.prog.cellsOf 4 = 1 := by kernel_rfl
theorem bytes_b : Try.prog.bytesOf 4 = 1 := by kernel_rfl
theorem opens_b : Opens enc bLay (fun _ _ => True) := fun W n cs x ht => by
  obtain ⟨b, e0, _⟩ := DataW.trod_bool Try.underlying4 ht
  cases e0
  exact ⟨b, rfl, trivial⟩
theorem Lift.Given.bools {ts : List TypeId} {args : List Value} {ds : List (DataW H)} {before : List MemPlace} (h : Lift.Given enc Try.prog (45 :: ts) W base args ds before) :
    ∃ (A : Option Addr) (c : Nat) (l : List Bool) (vs : List Value) (d : DataW H) (ds' : List (DataW H)) (q : List MemPlace), args = .slice A l.length c :: vs ∧ ds = d :: ds' ∧ Sls bLay bF W A l.length c l ∧ Lift.Given enc Try.prog ts W base vs ds' q := by
  obtain ⟨A, c, l, vs, d, ds', q, h1, h2, h3, h4, h5, h6, _, h8, h9⟩ := h.things (L := bLay) opens_b cells_b bytes_b
  have hb : l.length * 1 ≤ 140737488351232 := h6
  exact ⟨A, c, l, vs, d, ds', q, h1, h2, ⟨rfl, h8, h3, h4, fun _ _ => trivial, by show l.length * 1 ≤ _; omega⟩, h9⟩
end
end Go.Proofs.Ytfganmbjaglmiaa
