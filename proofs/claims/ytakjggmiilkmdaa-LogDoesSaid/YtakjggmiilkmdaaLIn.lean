/-
  Slices of numbers: how they lie, places in them; arguments that are such slices.
  No condition but the form's own.
-/
import Derived.Test.YtakjggmiilkmdaaJSl
import Derived.Test.YtakjggmiilkmdaaJPut
import Derived.OpenShut
import Derived.KernelRfl
set_option linter.unusedSimpArgs false
set_option linter.unusedVariables false
set_option maxRecDepth 100000
namespace Go.Proofs.Ytakjggmiilkmdaa
open Go.ChangeShapes Go.WideShapes Go.Deep Go.RowKit

/-- Numbers in a slice. -/
theorem info_in : (Try.prog.info? 3).map (fun i => (i.zero, i.size, i.bytes)) = some (some (Value.int .i64 0), 1, 8) := by kernel_rfl
def inLay : Lay Try.prog Int where
  t := 46
  e := 3
  k := 1
  bytes := 8
  z := .int .i64 0
  f := fun x => [.int .i64 x]
  len := fun _ => rfl
  one := fun x u hu => by
    simp only [List.mem_cons, List.not_mem_nil, or_false] at hu
    rcases hu with rfl
    rfl
  und := Try.underlying46
  info := info_in
  zs := rfl
  pos := by decide
  small := by decide
def inF (_ : Int) : Prop := True
/-- Where it begins, if it isn't empty, and its cells. -/
theorem Sls.iat {w : World} {A : Option Addr} {n c : Nat} {l : List Int} (h : Sls inLay inF w A n c l) (hn : 0 < n) : ∃ b o, A = some ⟨b, o, Option.none⟩ ∧
    ∀ W, Below w.heap.size w W → ∀ (i : Nat) x, l[i]? = some x → W.cell? ⟨b, o + i, Option.none⟩ = some (.int .i64 x) := by
  obtain ⟨b, o, e, hat⟩ := h.at hn
  refine ⟨b, o, e, fun W hW i x hx => ?_⟩
  have h1 := hat W hW i x hx 0 _ rfl
  have e2 : o + i * inLay.k + 0 = o + i := by show o + i * 1 + 0 = _; omega
  rw [e2] at h1
  exact h1
section
variable {H : Type} {enc : TypeId × Value → H} {W : World} {base : Nat}
theorem cells_in : Try.prog.cellsOf 3 = 1 := by kernel_rfl
theorem bytes_in : Try.prog.bytesOf 3 = 8 := by kernel_rfl
theorem opens_in : Opens enc inLay (fun _ _ => True) := fun W n cs x ht => by
  obtain ⟨b, e0, _⟩ := DataW.trod_int Try.underlying3 ht
  cases e0
  exact ⟨b, rfl, trivial⟩
theorem Lift.Given.ints {ts : List TypeId} {args : List Value} {ds : List (DataW H)} {before : List MemPlace} (h : Lift.Given enc Try.prog (46 :: ts) W base args ds before) :
    ∃ (A : Option Addr) (c : Nat) (l : List Int) (vs : List Value) (d : DataW H) (ds' : List (DataW H)) (q : List MemPlace), args = .slice A l.length c :: vs ∧ ds = d :: ds' ∧ Sls inLay inF W A l.length c l ∧ Lift.Given enc Try.prog ts W base vs ds' q := by
  obtain ⟨A, c, l, vs, d, ds', q, h1, h2, h3, h4, h5, h6, _, h8, h9⟩ := h.things (L := inLay) opens_in cells_in bytes_in
  have hb : l.length * 8 ≤ 140737488351232 := h6
  exact ⟨A, c, l, vs, d, ds', q, h1, h2, ⟨rfl, h8, h3, h4, fun _ _ => trivial, by show l.length * 8 ≤ _; omega⟩, h9⟩
end
end Go.Proofs.Ytakjggmiilkmdaa
