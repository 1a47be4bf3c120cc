/-
  Arguments that are values, commands, events, or a slice of events.
  No condition but the form's own.
-/
import Derived.Test.YtakjggmiilkmdaaLayOpen
import Derived.Test.YtakjggmiilkmdaaJCmd
import Derived.Test.YtakjggmiilkmdaaJLv
import Derived.KernelRfl
set_option maxRecDepth 100000
namespace Go.Proofs.Ytakjggmiilkmdaa
open Go.ChangeShapes Go.WideShapes Go.Deep Go.RowKit

def evL (e : Cmd.E) : List Value :=
  [.int .i64 e.c, .int .i64 e.e, .int .i64 e.r, .int .i64 e.cmd.k, .string e.cmd.name, .string e.cmd.key, .int .i64 e.cmd.val.k, .int .i64 e.cmd.val.n, .int .u64 (e.cmd.val.f : Int), .string e.cmd.val.s, .int .i64 e.cmd.old.k, .int .i64 e.cmd.old.n, .int .u64 (e.cmd.old.f : Int), .string e.cmd.old.s, .int .i64 e.cmd.n, .int .i64 e.cmd.m]
theorem info_evl : (Try.prog.info? 35).map (fun i => (i.zero, i.size, i.bytes)) = some (some (Value.agg #[.int .i64 0, .int .i64 0, .int .i64 0, .int .i64 0, .string ⟨#[]⟩, .string ⟨#[]⟩, .int .i64 0, .int .i64 0, .int .u64 0, .string ⟨#[]⟩, .int .i64 0, .int .i64 0, .int .u64 0, .string ⟨#[]⟩, .int .i64 0, .int .i64 0]), 16, 160) := by kernel_rfl
def evLay : Lay Try.prog Cmd.E where
  t := 22
  e := 35
  k := 16
  bytes := 160
  z := .agg #[.int .i64 0, .int .i64 0, .int .i64 0, .int .i64 0, .string ⟨#[]⟩, .string ⟨#[]⟩, .int .i64 0, .int .i64 0, .int .u64 0, .string ⟨#[]⟩, .int .i64 0, .int .i64 0, .int .u64 0, .string ⟨#[]⟩, .int .i64 0, .int .i64 0]
  f := evL
  len := fun _ => rfl
  one := fun x u hu => by
    unfold evL at hu
    simp only [List.mem_cons, List.not_mem_nil, or_false] at hu
    rcases hu with rfl | rfl | rfl | rfl | rfl | rfl | rfl | rfl | rfl | rfl | rfl | rfl | rfl | rfl | rfl | rfl <;> rfl
  und := Try.underlying22
  info := info_evl
  zs := rfl
  pos := by decide
  small := by decide
theorem evL_A (e : Cmd.E) : (evL e).toArray = evA e := rfl
section
variable {H : Type} {enc : TypeId × Value → H} {W : World} {base : Nat} {α : Type}
theorem cells_ref : Try.prog.cellsOf 28 = 3 := by kernel_rfl
theorem cells_ev : Try.prog.cellsOf 35 = 16 := by kernel_rfl
theorem bytes_ev : Try.prog.bytesOf 35 = 160 := by kernel_rfl
theorem opens_ref : OpensT enc 28 (fun r : Int × Int × Int => [.int .i64 r.1, .int .i64 r.2.1, .int .i64 r.2.2]) (fun _ => True) := fun W n cs x ht => by
  obtain ⟨ys, m, _, hx, hlen, hyl, hf⟩ := DataW.trod_struct Try.underlying28 ht
  have hlen : cs.length = Try.prog.cellsOf 28 := hlen
  rw [cells_ref] at hlen
  match cs, hlen, ys, hyl with
  | [v0, v1, v2], _, [y0, y1, y2], _ =>
    have f0 := hf 0 _ rfl
    have f1 := hf 1 _ rfl
    have f2 := hf 2 _ rfl
    simp only [List.getElem?_cons_zero, List.getElem?_cons_succ] at f0 f1 f2
    obtain ⟨a0, e0, _, _⟩ := DataW.trod_int Try.underlying3 f0
    obtain ⟨a1, e1, _, _⟩ := DataW.trod_int Try.underlying3 f1
    obtain ⟨a2, e2, _, _⟩ := DataW.trod_int Try.underlying3 f2
    cases e0; cases e1; cases e2
    exact ⟨(a0, a1, a2), rfl, trivial⟩
theorem opens_evt : OpensT enc 35 evL (fun e => e.cmd.val.f < 18446744073709551616 ∧ e.cmd.old.f < 18446744073709551616) := fun W n cs x ht => by
  obtain ⟨ys, m, _, hx, hlen, hyl, hf⟩ := DataW.trod_struct Try.underlying35 ht
  have hlen : cs.length = Try.prog.cellsOf 35 := hlen
  rw [cells_ev] at hlen
  match cs, hlen, ys, hyl with
  | [v0, v1, v2, v3, v4, v5, v6, v7, v8, v9, v10, v11, v12, v13, v14, v15], _, [y0, y1], _ =>
    have f0 := hf 0 _ rfl
    have f1 := hf 1 _ rfl
    simp only [List.getElem?_cons_zero, List.getElem?_cons_succ] at f0 f1
    obtain ⟨⟨a0, a1, a2⟩, e0, _⟩ := opens_ref (enc := enc) W _ _ _ f0
    obtain ⟨a3, e1, w3⟩ := opens_cmd (enc := enc) W _ _ _ f1
    cases e0; cases e1
    exact ⟨⟨a0, a1, a2, a3⟩, rfl, w3⟩
theorem opens_ev : Opens enc evLay (fun e _ => e.cmd.val.f < 18446744073709551616 ∧ e.cmd.old.f < 18446744073709551616) := fun W n cs x ht => opens_evt W n cs x ht
theorem Lift.Given.ev {ts : List TypeId} {args : List Value} {ds : List (DataW H)} {before : List MemPlace} (h : Lift.Given enc Try.prog (35 :: ts) W base args ds before) :
    ∃ (x : Cmd.E) (vs : List Value) (d : DataW H) (ds' : List (DataW H)) (q : List MemPlace), args = .agg (evL x).toArray :: vs ∧ ds = d :: ds' ∧ (x.cmd.val.f < 18446744073709551616 ∧ x.cmd.old.f < 18446744073709551616) ∧ Lift.Given enc Try.prog ts W base vs ds' q := h.one opens_evt Try.underlying35
theorem Lift.Given.evs {ts : List TypeId} {args : List Value} {ds : List (DataW H)} {before : List MemPlace} (h : Lift.Given enc Try.prog (22 :: ts) W base args ds before) :
    ∃ (A : Option Addr) (c : Nat) (l : List Cmd.E) (vs : List Value) (d : DataW H) (ds' : List (DataW H)) (q : List MemPlace), args = .slice A l.length c :: vs ∧ ds = d :: ds' ∧ evLay.Reads W W.heap.size A l ∧ (A = none → l = []) ∧
      (∀ x ∈ l, x.cmd.val.f < 18446744073709551616 ∧ x.cmd.old.f < 18446744073709551616) ∧ l.length ≤ Rows.uptoBulk d ∧ l.length ≤ c ∧ Lift.Given enc Try.prog ts W base vs ds' q := by
  obtain ⟨A, c, l, vs, d, ds', q, h1, h2, h3, h4, h5, _, h6⟩ := h.things (L := evLay) opens_ev cells_ev bytes_ev
  refine ⟨A, c, l, vs, d, ds', q, h1, h2, h3, h4, fun x hx => ?_, h6⟩
  obtain ⟨dx, g, _⟩ := h5 x hx
  exact g
end
end Go.Proofs.Ytakjggmiilkmdaa
