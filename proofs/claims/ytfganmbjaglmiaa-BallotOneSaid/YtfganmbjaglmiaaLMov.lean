/-
  Arguments that are slices of moves; a number of a byte.
  No condition but the form's own.
-/
import Derived.Test.YtfganmbjaglmiaaBalTry
import Derived.OpenShut
import Derived.KernelRfl
set_option linter.unusedSimpArgs false
set_option linter.unusedVariables false
set_option maxRecDepth 100000
namespace Go.Proofs.Ytfganmbjaglmiaa
open Go.ChangeShapes Go.WideShapes Go.Deep Go.RowKit

section
variable {H : Type} {enc : TypeId × Value → H} {W : World} {base : Nat}
theorem cells_mv : Try.prog.cellsOf 42 = 5 := by kernel_rfl
theorem bytes_mv : Try.prog.bytesOf 42 = 40 := by kernel_rfl
theorem opens_mv : Opens enc mvLay (fun _ _ => True) := fun W n cs x ht => by
  obtain ⟨ys, m, _, hx, hlen, hyl, hf⟩ := DataW.trod_struct Try.underlying42 ht
  have hlen : cs.length = Try.prog.cellsOf 42 := hlen
  rw [cells_mv] at hlen
  match cs, hlen, ys, hyl with
  | [v0, v1, v2, v3, v4], _, [y0, y1, y2, y3, y4], _ =>
    have f0 := hf 0 _ rfl
    have f1 := hf 1 _ rfl
    have f2 := hf 2 _ rfl
    have f3 := hf 3 _ rfl
    have f4 := hf 4 _ rfl
    simp only [List.getElem?_cons_zero, List.getElem?_cons_succ] at f0 f1 f2 f3 f4
    obtain ⟨a0, e0, _, _⟩ := DataW.trod_int Try.underlying3 f0
    obtain ⟨a1, e1, _, _⟩ := DataW.trod_int Try.underlying3 f1
    obtain ⟨a2, e2, _, _⟩ := DataW.trod_int Try.underlying3 f2
    obtain ⟨a3, e3, _, _⟩ := DataW.trod_int Try.underlying3 f3
    obtain ⟨a4, e4, _, _⟩ := DataW.trod_int Try.underlying3 f4
    cases e0; cases e1; cases e2; cases e3; cases e4
    exact ⟨⟨a0, a1, a2, a3, a4⟩, rfl, trivial⟩
theorem Lift.Given.moves {ts : List TypeId} {args : List Value} {ds : List (DataW H)} {before : List MemPlace} (h : Lift.Given enc Try.prog (38 :: ts) W base args ds before) :
    ∃ (A : Option Addr) (c : Nat) (l : List Mov) (vs : List Value) (d : DataW H) (ds' : List (DataW H)) (q : List MemPlace), args = .slice A l.length c :: vs ∧ ds = d :: ds' ∧ Sls mvLay (fun _ => True) W A l.length c l ∧ Lift.Given enc Try.prog ts W base vs ds' q := by
  obtain ⟨A, c, l, vs, d, ds', q, h1, h2, h3, h4, h5, h6, _, h8, h9⟩ := h.things (L := mvLay) opens_mv cells_mv bytes_mv
  have hb : l.length * 40 ≤ 140737488351232 := h6
  exact ⟨A, c, l, vs, d, ds', q, h1, h2, ⟨rfl, h8, h3, h4, fun _ _ => trivial, by show l.length * 40 ≤ _; omega⟩, h9⟩
end
theorem u8_nat {x : Int} (h : (Lit.int .u8 x).wf = true) : ∃ u : Nat, x = (u : Int) ∧ u < 256 := by
  have h1 : (0 ≤ x) ∧ x ≤ 255 := by simpa [Lit.wf, IntKind.min, IntKind.max, IntKind.signed, IntKind.bits] using h
  exact ⟨x.toNat, by omega, by omega⟩
end Go.Proofs.Ytfganmbjaglmiaa
