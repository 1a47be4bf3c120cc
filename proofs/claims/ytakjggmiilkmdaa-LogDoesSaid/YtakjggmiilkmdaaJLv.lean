/-
  Arguments that are values.
  No condition but the form's own.
  Arguments that are commands.
  No condition but the form's own.
-/
import Derived.Test.YtakjggmiilkmdaaOpensT
import Derived.Test.YtakjggmiilkmdaaNumBase
import Derived.Test.YtakjggmiilkmdaaJMath
import Derived.KernelRfl
import Derived.Test.YtakjggmiilkmdaaJCmd
set_option maxRecDepth 100000
namespace Go.Proofs.Ytakjggmiilkmdaa
open Go.ChangeShapes Go.WideShapes Go.Deep Go.RowKit

def vaL (v : Val.V) : List Value := [.int .i64 v.k, .int .i64 v.n, .int .u64 (v.f : Int), .string v.s]
section
variable {H : Type} {enc : TypeId × Value → H} {W : World} {base : Nat} {α : Type}
theorem cells_val : Try.prog.cellsOf 31 = 4 := by kernel_rfl
theorem opens_val : OpensT enc 31 vaL (fun v => v.f < 18446744073709551616) := fun W n cs x ht => by
  obtain ⟨ys, m, _, hx, hlen, hyl, hf⟩ := DataW.trod_struct Try.underlying31 ht
  have hlen : cs.length = Try.prog.cellsOf 31 := hlen
  rw [cells_val] at hlen
  match cs, hlen, ys, hyl with
  | [v0, v1, v2, v3], _, [y0, y1, y2, y3], _ =>
    have f0 := hf 0 _ rfl
    have f1 := hf 1 _ rfl
    have f2 := hf 2 _ rfl
    have f3 := hf 3 _ rfl
    simp only [List.getElem?_cons_zero, List.getElem?_cons_succ] at f0 f1 f2 f3
    obtain ⟨a0, e0, _, _⟩ := DataW.trod_int Try.underlying3 f0
    obtain ⟨a1, e1, _, _⟩ := DataW.trod_int Try.underlying3 f1
    obtain ⟨a2, e2, _, w2⟩ := DataW.trod_int Try.underlying29 f2
    obtain ⟨a3, e3, _, _⟩ := DataW.trod_string Try.underlying9 f3
    cases e0; cases e1; cases e2; cases e3
    obtain ⟨u, rfl, hu⟩ := u64_lt w2
    exact ⟨⟨a0, a1, u, a3⟩, rfl, hu⟩
theorem Lift.Given.val {ts : List TypeId} {args : List Value} {ds : List (DataW H)} {before : List MemPlace} (h : Lift.Given enc Try.prog (31 :: ts) W base args ds before) :
    ∃ (x : Val.V) (vs : List Value) (d : DataW H) (ds' : List (DataW H)) (q : List MemPlace), args = .agg (vaL x).toArray :: vs ∧ ds = d :: ds' ∧ x.f < 18446744073709551616 ∧ Lift.Given enc Try.prog ts W base vs ds' q := h.one opens_val Try.underlying31
end
end Go.Proofs.Ytakjggmiilkmdaa
set_option maxRecDepth 100000
namespace Go.Proofs.Ytakjggmiilkmdaa
open Go.ChangeShapes Go.WideShapes Go.Deep Go.RowKit

def cmL (c : Cmd.C) : List Value :=
  [.int .i64 c.k, .string c.name, .string c.key, .int .i64 c.val.k, .int .i64 c.val.n, .int .u64 (c.val.f : Int), .string c.val.s, .int .i64 c.old.k, .int .i64 c.old.n, .int .u64 (c.old.f : Int), .string c.old.s, .int .i64 c.n, .int .i64 c.m]
theorem cmL_A (c : Cmd.C) : (cmL c).toArray = cmA c := rfl
section
variable {H : Type} {enc : TypeId × Value → H} {W : World} {base : Nat} {α : Type}
theorem cells_cmd : Try.prog.cellsOf 33 = 13 := by kernel_rfl
theorem opens_cmd : OpensT enc 33 cmL (fun c => c.val.f < 18446744073709551616 ∧ c.old.f < 18446744073709551616) := fun W n cs x ht => by
  obtain ⟨ys, m, _, hx, hlen, hyl, hf⟩ := DataW.trod_struct Try.underlying33 ht
  have hlen : cs.length = Try.prog.cellsOf 33 := hlen
  rw [cells_cmd] at hlen
  match cs, hlen, ys, hyl with
  | [v0, v1, v2, v3, v4, v5, v6, v7, v8, v9, v10, v11, v12], _, [y0, y1, y2, y3, y4, y5, y6], _ =>
    have f0 := hf 0 _ rfl
    have f1 := hf 1 _ rfl
    have f2 := hf 2 _ rfl
    have f3 := hf 3 _ rfl
    have f4 := hf 4 _ rfl
    have f5 := hf 5 _ rfl
    have f6 := hf 6 _ rfl
    simp only [List.getElem?_cons_zero, List.getElem?_cons_succ] at f0 f1 f2 f3 f4 f5 f6
    obtain ⟨a0, e0, _, _⟩ := DataW.trod_int Try.underlying3 f0
    obtain ⟨a1, e1, _, _⟩ := DataW.trod_string Try.underlying9 f1
    obtain ⟨a2, e2, _, _⟩ := DataW.trod_string Try.underlying9 f2
    obtain ⟨a3, e3, w3⟩ := opens_val (enc := enc) W _ _ _ f3
    obtain ⟨a4, e4, w4⟩ := opens_val (enc := enc) W _ _ _ f4
    obtain ⟨a5, e5, _, _⟩ := DataW.trod_int Try.underlying3 f5
    obtain ⟨a6, e6, _, _⟩ := DataW.trod_int Try.underlying3 f6
    cases e0; cases e1; cases e2; cases e3; cases e4; cases e5; cases e6
    exact ⟨⟨a0, a1, a2, a3, a4, a5, a6⟩, rfl, w3, w4⟩
theorem Lift.Given.cmd {ts : List TypeId} {args : List Value} {ds : List (DataW H)} {before : List MemPlace} (h : Lift.Given enc Try.prog (33 :: ts) W base args ds before) :
    ∃ (x : Cmd.C) (vs : List Value) (d : DataW H) (ds' : List (DataW H)) (q : List MemPlace), args = .agg (cmL x).toArray :: vs ∧ ds = d :: ds' ∧ (x.val.f < 18446744073709551616 ∧ x.old.f < 18446744073709551616) ∧ Lift.Given enc Try.prog ts W base vs ds' q := h.one opens_cmd Try.underlying33
end
end Go.Proofs.Ytakjggmiilkmdaa
