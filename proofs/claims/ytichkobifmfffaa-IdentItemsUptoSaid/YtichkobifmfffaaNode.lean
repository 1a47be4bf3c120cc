/-
  Slices of nodes: how they lie, and an argument that is one, or a node.
  No condition but the form's own.
-/
import Derived.Test.YtichkobifmfffaaLayOpen
import Derived.Test.YtichkobifmfffaaIdMath
import Derived.KernelRfl
namespace Go.Proofs.Ytichkobifmfffaa
open Go.ChangeShapes Go.WideShapes Go.Deep Go.RowKit

theorem info_node : (Try.prog.info? 24).map (fun i => (i.zero, i.size, i.bytes)) = some (some (Value.agg #[.int .i64 0, .int .i64 0]), 2, 16) := by kernel_rfl
def nodeLay : Lay Try.prog Ident.Id where
  t := 22
  e := 24
  k := 2
  bytes := 16
  z := .agg #[.int .i64 0, .int .i64 0]
  f := fun x => [.int .i64 x.s, .int .i64 x.c]
  len := fun _ => rfl
  one := fun x u hu => by
    simp only [List.mem_cons, List.not_mem_nil, or_false] at hu
    rcases hu with rfl | rfl <;> rfl
  und := Try.underlying22
  info := info_node
  zs := rfl
  pos := by decide
  small := by decide
/-- The two cells of node i behind an address. -/
theorem at_node {w : World} {b o i : Nat} {x : Ident.Id} (h : nodeLay.At w b o i x) : w.cell? ⟨b, o + i * 2, none⟩ = some (.int .i64 x.s) ∧ w.cell? ⟨b, o + i * 2 + 1, none⟩ = some (.int .i64 x.c) :=
  ⟨h 0 _ rfl, h 1 _ rfl⟩
theorem flat_node1 (s c : Int) : #[Value.int .i64 s, .int .i64 c] = (nodeLay.flat [⟨s, c⟩]).toArray := rfl
/-- A node as a struct's value. -/
def nv (x : Ident.Id) : Value := .agg #[.int .i64 x.s, .int .i64 x.c]

section
variable {H : Type} {enc : TypeId × Value → H} {W : World} {base : Nat}
theorem cells_node : Try.prog.cellsOf 24 = 2 := by kernel_rfl
theorem bytes_node : Try.prog.bytesOf 24 = 16 := by kernel_rfl
def GoodNode (it : Ident.Id) (_ : DataW H) : Prop := (Lit.int .i64 it.s).wf = true ∧ (Lit.int .i64 it.c).wf = true
theorem opens_node : Opens enc nodeLay GoodNode := fun W n cs x a hc ht => by
  obtain ⟨ys, m, _, hx, hlen, hyl, hf⟩ := DataW.trod_struct Try.underlying24 ht
  have hc : W.cells? 0 a (Try.prog.cellsOf 24) = some cs := hc
  rw [cells_node] at hc hlen
  obtain ⟨_, hcl, hat⟩ := World.cells?_some hc
  match cs, hcl, ys, hyl with
  | [v0, v1], _, [y0, y1], _ =>
    have f0 := hf 0 _ rfl
    have f1 := hf 1 _ rfl
    simp only [List.getElem?_cons_zero, List.getElem?_cons_succ] at f0 f1
    obtain ⟨k, e0, g0, w0⟩ := DataW.trod_int Try.underlying3 f0
    obtain ⟨q, e1, g1, w1⟩ := DataW.trod_int Try.underlying3 f1
    cases e0; cases e1
    subst g0 g1
    refine ⟨⟨k, q⟩, fun j u hu => ?_, w0, w1⟩
    match j, hu with
    | 0, hu => cases hu; exact hat 0 (by decide)
    | 1, hu => cases hu; exact hat 1 (by decide)
    | j + 2, hu => cases hu

theorem Lift.Given.nodes {ts : List TypeId} {args : List Value} {ds : List (DataW H)} {before : List MemPlace} (h : Lift.Given enc Try.prog (22 :: ts) W base args ds before) :
    ∃ (A : Option Addr) (c : Nat) (l : List Ident.Id) (vs : List Value) (d : DataW H) (ds' : List (DataW H)) (q : List MemPlace), args = .slice A l.length c :: vs ∧ ds = d :: ds' ∧ nodeLay.Reads W W.heap.size A l ∧ (A = none → l = []) ∧
      (∀ x ∈ l, (Lit.int .i64 x.s).wf = true ∧ (Lit.int .i64 x.c).wf = true) ∧ l.length * 16 ≤ reachBytes ∧ l.length ≤ Rows.uptoBulk d ∧ l.length ≤ c ∧ Lift.Given enc Try.prog ts W base vs ds' q := by
  obtain ⟨A, c, l, vs, d, ds', q, h1, h2, h3, h4, h5, h6⟩ := h.things (L := nodeLay) opens_node cells_node bytes_node
  refine ⟨A, c, l, vs, d, ds', q, h1, h2, h3, h4, fun x hx => ?_, h6⟩
  obtain ⟨dx, g1, _⟩ := h5 x hx
  exact g1
theorem Lift.Given.node {ts : List TypeId} {args : List Value} {ds : List (DataW H)} {before : List MemPlace} (h : Lift.Given enc Try.prog (24 :: ts) W base args ds before) :
    ∃ (x : Ident.Id) (vs : List Value) (d : DataW H) (ds' : List (DataW H)) (q : List MemPlace), args = nv x :: vs ∧ ds = d :: ds' ∧ (Lit.int .i64 x.s).wf = true ∧ (Lit.int .i64 x.c).wf = true ∧ Lift.Given enc Try.prog ts W base vs ds' q := by
  obtain ⟨v, vs, d, ds', p, q, rfl, rfl, rfl, h0, hok, _, hw, hg⟩ := h.cons
  obtain ⟨v0, v1, y0, y1, n, rfl, rfl, _, f0, f1⟩ := Go.Joins.open_agg2 Try.underlying24 (by kernel_rfl) (by kernel_rfl) hok h0
  obtain ⟨k, e0, g0, w0⟩ := DataW.trod_int Try.underlying3 f0
  obtain ⟨m, e1, g1, w1⟩ := DataW.trod_int Try.underlying3 f1
  cases e0; cases e1
  subst g0 g1
  exact ⟨⟨k, m⟩, vs, _, ds', q, rfl, rfl, w0, w1, hg⟩
end
end Go.Proofs.Ytichkobifmfffaa
