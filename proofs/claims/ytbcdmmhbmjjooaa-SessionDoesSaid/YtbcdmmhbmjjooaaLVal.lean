/-
  Arguments that are values.
  No condition but the form's own.
-/
import Derived.Test.YtbcdmmhbmjjooaaOpensT
import Derived.Test.YtbcdmmhbmjjooaaNumBase
import Derived.Test.YtbcdmmhbmjjooaaValM
import Derived.KernelRfl
set_option maxRecDepth 100000
namespace Go.Proofs.Ytbcdmmhbmjjooaa
open Go.ChangeShapes Go.WideShapes Go.Deep Go.RowKit

def vaL (v : Val.V) : List Value := [.int .i64 v.k, .int .i64 v.n, .int .u64 (v.f : Int), .string v.s]
section
variable {H : Type} {enc : TypeId × Value → H} {W : World} {base : Nat} {α : Type}
theorem cells_val : Try.prog.cellsOf 25 = 4 := by kernel_rfl
theorem opens_val : OpensT enc 25 vaL (fun v => v.f < 18446744073709551616) := fun W n cs x ht => by
  obtain ⟨ys, m, _, hx, hlen, hyl, hf⟩ := DataW.trod_struct Try.underlying25 ht
  have hlen : cs.length = Try.prog.cellsOf 25 := hlen
  rw [cells_val] at hlen
  match cs, hlen, ys, hyl with
  | [v0, v1, v2, v3], _, [y0, y1, y2, y3], _ =>
    have f0 := hf 0 _ rfl
    have f1 := hf 1 _ rfl
    have f2 := hf 2 _ rfl
    have f3 := hf 3 _ rfl
    simp only [List.getElem?_cons_zero, List.getElem?_cons_succ] at f0 f1 f2 f3
    obtain ⟨a0, e0, _, _⟩ := DataW.trod_int Try.underlying3 f0
    obtain ⟨a1, e1, _, _⟩ := DataW.trod_int Try.underlying3 f1
    obtain ⟨a2, e2, _, w2⟩ := DataW.trod_int Try.underlying23 f2
    obtain ⟨a3, e3, _, _⟩ := DataW.trod_string Try.underlying9 f3
    cases e0; cases e1; cases e2; cases e3
    obtain ⟨u, rfl, hu⟩ := u64_lt w2
    exact ⟨⟨a0, a1, u, a3⟩, rfl, hu⟩
theorem Lift.Given.val {ts : List TypeId} {args : List Value} {ds : List (DataW H)} {before : List MemPlace} (h : Lift.Given enc Try.prog (25 :: ts) W base args ds before) :
    ∃ (x : Val.V) (vs : List Value) (d : DataW H) (ds' : List (DataW H)) (q : List MemPlace), args = .agg (vaL x).toArray :: vs ∧ ds = d :: ds' ∧ x.f < 18446744073709551616 ∧ Lift.Given enc Try.prog ts W base vs ds' q := h.one opens_val Try.underlying25
end
end Go.Proofs.Ytbcdmmhbmjjooaa
