/-
  How a Move lies: its cells, a slice of them, an argument that is one or a slice of them. (Written by program: wip/gen/lay.py.)
  No condition but the form's own.
-/
import Derived.Test.YtamjcghdebjpjaaLayOpen
import Derived.KernelRfl
namespace Go.Proofs.Ytamjcghdebjpjaa
open Go.ChangeShapes Go.WideShapes Go.Deep Go.RowKit

namespace Lnk
structure Move where
  k : Int
  n : Int
end Lnk
theorem info_lmv : (Try.prog.info? 48).map (fun i => (i.zero, i.size, i.bytes)) = some (some (Value.agg #[.int .i64 0, .int .i64 0]), 2, 16) := by kernel_rfl
def lmvLay : Lay Try.prog Lnk.Move where
  t := 43
  e := 48
  k := 2
  bytes := 16
  z := .agg #[.int .i64 0, .int .i64 0]
  f := fun x => [.int .i64 x.k, .int .i64 x.n]
  len := fun _ => rfl
  one := fun x u hu => by
    simp only [List.mem_cons, List.not_mem_nil, or_false] at hu
    rcases hu with rfl | rfl <;> rfl
  und := Try.underlying43
  info := info_lmv
  zs := rfl
  pos := by decide
  small := by decide
/-- The cells of number i behind an address. -/
theorem at_lmv {w : World} {b o i : Nat} {x : Lnk.Move} (h : lmvLay.At w b o i x) : w.cell? ⟨b, o + i * 2, none⟩ = some (.int .i64 x.k) ∧ w.cell? ⟨b, o + i * 2 + 1, none⟩ = some (.int .i64 x.n) :=
  ⟨h 0 _ rfl, h 1 _ rfl⟩
/-- It as a struct's value. -/
def lmvV (x : Lnk.Move) : Value := .agg #[.int .i64 x.k, .int .i64 x.n]
theorem flat_lmv (x : Lnk.Move) : #[Value.int .i64 x.k, .int .i64 x.n] = (lmvLay.flat [x]).toArray := rfl

section
variable {H : Type} {enc : TypeId × Value → H} {W : World} {base : Nat}
theorem cells_lmv : Try.prog.cellsOf 48 = 2 := by kernel_rfl
theorem bytes_lmv : Try.prog.bytesOf 48 = 16 := by kernel_rfl
def GoodLmv (x : Lnk.Move) (d : DataW H) : Prop := (Lit.int .i64 x.k).wf = true ∧ (Lit.int .i64 x.n).wf = true ∧ d = .agg [.lit (.int .i64 x.k), .lit (.int .i64 x.n)]
theorem opens_lmv : Opens enc lmvLay GoodLmv := fun W n cs x ht => by
  obtain ⟨ys, m, _, hx, hlen, hyl, hf⟩ := DataW.trod_struct Try.underlying48 ht
  have hlen : cs.length = Try.prog.cellsOf 48 := hlen
  rw [cells_lmv] at hlen
  match cs, hlen, ys, hyl with
  | [v0, v1], _, [y0, y1], _ =>
    have f0 := hf 0 _ rfl
    have f1 := hf 1 _ rfl
    simp only [List.getElem?_cons_zero, List.getElem?_cons_succ] at f0 f1
    obtain ⟨a0, e0, g0, w0⟩ := DataW.trod_int Try.underlying3 f0
    cases e0; subst g0
    obtain ⟨a1, e1, g1, w1⟩ := DataW.trod_int Try.underlying3 f1
    cases e1; subst g1
    exact ⟨⟨a0, a1⟩, rfl, w0, w1, by rw [hx]; rfl⟩

theorem Lift.Given.lmvs {ts : List TypeId} {args : List Value} {ds : List (DataW H)} {before : List MemPlace} (h : Lift.Given enc Try.prog (43 :: ts) W base args ds before) :
    ∃ (A : Option Addr) (c : Nat) (l : List Lnk.Move) (vs : List Value) (d : DataW H) (ds' : List (DataW H)) (q : List MemPlace), args = .slice A l.length c :: vs ∧ ds = d :: ds' ∧ lmvLay.Reads W W.heap.size A l ∧ (A = none → l = []) ∧
      (∀ x ∈ l, (Lit.int .i64 x.k).wf = true ∧ (Lit.int .i64 x.n).wf = true) ∧ l.length * 16 ≤ reachBytes ∧ l.length ≤ Rows.uptoBulk d ∧ l.length ≤ c ∧ Lift.Given enc Try.prog ts W base vs ds' q := by
  obtain ⟨A, c, l, vs, d, ds', q, h1, h2, h3, h4, h5, h6⟩ := h.things (L := lmvLay) opens_lmv cells_lmv bytes_lmv
  refine ⟨A, c, l, vs, d, ds', q, h1, h2, h3, h4, fun x hx => ?_, h6⟩
  obtain ⟨dx, ⟨g0, g1, gd⟩, gR, gB⟩ := h5 x hx
  rw [gd] at gR gB
  exact ⟨g0, g1⟩
theorem Lift.Given.lmv {ts : List TypeId} {args : List Value} {ds : List (DataW H)} {before : List MemPlace} (h : Lift.Given enc Try.prog (48 :: ts) W base args ds before) :
    ∃ (x : Lnk.Move) (vs : List Value) (d : DataW H) (ds' : List (DataW H)) (q : List MemPlace), args = lmvV x :: vs ∧ ds = d :: ds' ∧ ((Lit.int .i64 x.k).wf = true ∧ (Lit.int .i64 x.n).wf = true) ∧ Lift.Given enc Try.prog ts W base vs ds' q := by
  obtain ⟨x, vs, d, ds', q, h1, h2, ⟨g0, g1, gd⟩, gR, h6⟩ := h.thing (L := lmvLay) opens_lmv Try.underlying48
  subst gd
  exact ⟨x, vs, _, ds', q, h1, h2, ⟨g0, g1⟩, h6⟩
end
end Go.Proofs.Ytamjcghdebjpjaa
