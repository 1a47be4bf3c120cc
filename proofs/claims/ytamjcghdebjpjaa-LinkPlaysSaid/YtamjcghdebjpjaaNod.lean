/-
  How an Id lies where no slice of them stands: its two cells, and an argument that is one.
  No condition but the form's own.
-/
import Derived.Test.YtamjcghdebjpjaaLayOpen
import Derived.KernelRfl
namespace Go.Proofs.Ytamjcghdebjpjaa
open Go.ChangeShapes Go.WideShapes Go.Deep Go.RowKit

namespace Lnk
structure Nod where
  s : Int
  c : Int
end Lnk
def nodV (x : Lnk.Nod) : Value := .agg #[.int .i64 x.s, .int .i64 x.c]
section
variable {H : Type} {enc : TypeId × Value → H} {W : World} {base : Nat}
theorem cells_nod : Try.prog.cellsOf 23 = 2 := by kernel_rfl
def GoodNod (x : Lnk.Nod) (d : DataW H) : Prop := (Lit.int .i64 x.s).wf = true ∧ (Lit.int .i64 x.c).wf = true ∧ d = .agg [.lit (.int .i64 x.s), .lit (.int .i64 x.c)]
theorem opens_nod (W : World) (n : Nat) (cs : List Value) (x : DataW H × List MemPlace) (ht : DataW.trod enc Try.prog W 0 (fun _ => true) true n 23 cs = some x) :
    ∃ it : Lnk.Nod, cs = [.int .i64 it.s, .int .i64 it.c] ∧ GoodNod it x.1 := by
  obtain ⟨ys, m, _, hx, hlen, hyl, hf⟩ := DataW.trod_struct Try.underlying23 ht
  have hlen : cs.length = Try.prog.cellsOf 23 := hlen
  rw [cells_nod] at hlen
  match cs, hlen, ys, hyl with
  | [v0, v1], _, [y0, y1], _ =>
    have f0 := hf 0 _ rfl
    have f1 := hf 1 _ rfl
    simp only [List.getElem?_cons_zero, List.getElem?_cons_succ] at f0 f1
    obtain ⟨a0, e0, g0, w0⟩ := DataW.trod_int Try.underlying3 f0
    cases e0; subst g0
    obtain ⟨a1, e1, g1, w1⟩ := DataW.trod_int Try.underlying3 f1
    cases e1; subst g1
    exact ⟨⟨a0, a1⟩, rfl, w0, w1, by rw [hx]; rfl⟩
theorem Lift.Given.nod {ts : List TypeId} {args : List Value} {ds : List (DataW H)} {before : List MemPlace} (h : Lift.Given enc Try.prog (23 :: ts) W base args ds before) :
    ∃ (x : Lnk.Nod) (vs : List Value) (d : DataW H) (ds' : List (DataW H)) (q : List MemPlace), args = nodV x :: vs ∧ ds = d :: ds' ∧ ((Lit.int .i64 x.s).wf = true ∧ (Lit.int .i64 x.c).wf = true) ∧ Lift.Given enc Try.prog ts W base vs ds' q := by
  obtain ⟨v, vs, d, ds', p, q, rfl, rfl, rfl, h0, hok, _, hw, hg⟩ := h.cons
  obtain ⟨fuel, h0⟩ := h0
  obtain ⟨cs, rfl, hsz⟩ := okWide_struct Try.underlying23 hok
  obtain ⟨it, hit, hgd⟩ := opens_nod W _ _ _ h0
  refine ⟨it, vs, d, ds', q, ?_, rfl, ⟨hgd.1, hgd.2.1⟩, hg⟩
  have hc : cs.toList = [.int .i64 it.s, .int .i64 it.c] := by simpa [Value.cells] using hit
  have hc2 : cs = #[.int .i64 it.s, .int .i64 it.c] := by rw [← Array.toArray_toList (xs := cs), hc]
  rw [hc2]; rfl
end
end Go.Proofs.Ytamjcghdebjpjaa
