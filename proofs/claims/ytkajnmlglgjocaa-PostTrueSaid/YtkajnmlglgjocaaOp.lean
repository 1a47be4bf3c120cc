/-
  How a Op lies: its cells, a slice of them, an argument that is one or a slice of them. (Written by program: wip/gen/lay.py.)
  No condition but the form's own.
-/
import Derived.Test.YtkajnmlglgjocaaLayOpen
import Derived.Test.YtkajnmlglgjocaaMail
import Derived.KernelRfl
namespace Go.Proofs.Ytkajnmlglgjocaa
open Go.ChangeShapes Go.WideShapes Go.Deep Go.RowKit

namespace Pst
structure Op where
  k : Int
  i : Int
  n : Int
  b : Int
  m : Pst.Mail
end Pst
theorem info_op : (Try.prog.info? 29).map (fun i => (i.zero, i.size, i.bytes)) = some (some (Value.agg #[.int .i64 0, .int .i64 0, .int .i64 0, .int .u8 0, .int .i64 0, .int .i64 0, .string ⟨#[]⟩, .bool false]), 8, 72) := by kernel_rfl
def opLay : Lay Try.prog Pst.Op where
  t := 37
  e := 29
  k := 8
  bytes := 72
  z := .agg #[.int .i64 0, .int .i64 0, .int .i64 0, .int .u8 0, .int .i64 0, .int .i64 0, .string ⟨#[]⟩, .bool false]
  f := fun x => [.int .i64 x.k, .int .i64 x.i, .int .i64 x.n, .int .u8 x.b, .int .i64 x.m.f, .int .i64 x.m.t, .string x.m.d, .bool x.m.s]
  len := fun _ => rfl
  one := fun x u hu => by
    simp only [List.mem_cons, List.not_mem_nil, or_false] at hu
    rcases hu with rfl | rfl | rfl | rfl | rfl | rfl | rfl | rfl <;> rfl
  und := Try.underlying37
  info := info_op
  zs := rfl
  pos := by decide
  small := by decide
/-- The cells of number i behind an address. -/
theorem at_op {w : World} {b o i : Nat} {x : Pst.Op} (h : opLay.At w b o i x) : w.cell? ⟨b, o + i * 8, none⟩ = some (.int .i64 x.k) ∧ w.cell? ⟨b, o + i * 8 + 1, none⟩ = some (.int .i64 x.i) ∧ w.cell? ⟨b, o + i * 8 + 2, none⟩ = some (.int .i64 x.n) ∧ w.cell? ⟨b, o + i * 8 + 3, none⟩ = some (.int .u8 x.b) ∧ w.cell? ⟨b, o + i * 8 + 4, none⟩ = some (.int .i64 x.m.f) ∧ w.cell? ⟨b, o + i * 8 + 5, none⟩ = some (.int .i64 x.m.t) ∧ w.cell? ⟨b, o + i * 8 + 6, none⟩ = some (.string x.m.d) ∧ w.cell? ⟨b, o + i * 8 + 7, none⟩ = some (.bool x.m.s) :=
  ⟨h 0 _ rfl, h 1 _ rfl, h 2 _ rfl, h 3 _ rfl, h 4 _ rfl, h 5 _ rfl, h 6 _ rfl, h 7 _ rfl⟩
/-- It as a struct's value. -/
def opV (x : Pst.Op) : Value := .agg #[.int .i64 x.k, .int .i64 x.i, .int .i64 x.n, .int .u8 x.b, .int .i64 x.m.f, .int .i64 x.m.t, .string x.m.d, .bool x.m.s]
theorem flat_op (x : Pst.Op) : #[Value.int .i64 x.k, .int .i64 x.i, .int .i64 x.n, .int .u8 x.b, .int .i64 x.m.f, .int .i64 x.m.t, .string x.m.d, .bool x.m.s] = (opLay.flat [x]).toArray := rfl

section
variable {H : Type} {enc : TypeId × Value → H} {W : World} {base : Nat}
theorem cells_op : Try.prog.cellsOf 29 = 8 := by kernel_rfl
theorem bytes_op : Try.prog.bytesOf 29 = 72 := by kernel_rfl
def GoodOp (x : Pst.Op) (d : DataW H) : Prop := (Lit.int .i64 x.k).wf = true ∧ (Lit.int .i64 x.i).wf = true ∧ (Lit.int .i64 x.n).wf = true ∧ (Lit.int .u8 x.b).wf = true ∧ (Lit.int .i64 x.m.f).wf = true ∧ (Lit.int .i64 x.m.t).wf = true ∧ d = .agg [.lit (.int .i64 x.k), .lit (.int .i64 x.i), .lit (.int .i64 x.n), .lit (.int .u8 x.b), .agg [.lit (.int .i64 x.m.f), .lit (.int .i64 x.m.t), .lit (.string x.m.d.data.toList), .lit (.bool x.m.s)]]
theorem opens_op : Opens enc opLay GoodOp := fun W n cs x ht => by
  obtain ⟨ys, m, _, hx, hlen, hyl, hf⟩ := DataW.trod_struct Try.underlying29 ht
  have hlen : cs.length = Try.prog.cellsOf 29 := hlen
  rw [cells_op] at hlen
  match cs, hlen, ys, hyl with
  | [v0, v1, v2, v3, v4, v5, v6, v7], _, [y0, y1, y2, y3, y4], _ =>
    have f0 := hf 0 _ rfl
    have f1 := hf 1 _ rfl
    have f2 := hf 2 _ rfl
    have f3 := hf 3 _ rfl
    have f4 := hf 4 _ rfl
    simp only [List.getElem?_cons_zero, List.getElem?_cons_succ] at f0 f1 f2 f3 f4
    obtain ⟨a0, e0, g0, w0⟩ := DataW.trod_int Try.underlying3 f0
    cases e0; subst g0
    obtain ⟨a1, e1, g1, w1⟩ := DataW.trod_int Try.underlying3 f1
    cases e1; subst g1
    obtain ⟨a2, e2, g2, w2⟩ := DataW.trod_int Try.underlying3 f2
    cases e2; subst g2
    obtain ⟨a3, e3, g3, w3⟩ := DataW.trod_int Try.underlying5 f3
    cases e3; subst g3
    obtain ⟨a4, e4, w4_0, w4_1, g4⟩ := opens_mail (enc := enc) W _ _ _ f4
    cases e4
    exact ⟨⟨a0, a1, a2, a3, a4⟩, rfl, w0, w1, w2, w3, w4_0, w4_1, by rw [hx]; simp only [List.map_cons, List.map_nil, g4]⟩
theorem reach_op0 (x : Pst.Op) (h : ((.agg [.lit (.int .i64 x.k), .lit (.int .i64 x.i), .lit (.int .i64 x.n), .lit (.int .u8 x.b), .agg [.lit (.int .i64 x.m.f), .lit (.int .i64 x.m.t), .lit (.string x.m.d.data.toList), .lit (.bool x.m.s)]] : DataW H).weights Try.prog 29).all (· ≤ reachBytes) = true) : x.m.d.size ≤ reachBytes := by
  have hs : x.m.d.data.toList.length ∈ (.agg [.lit (.int .i64 x.k), .lit (.int .i64 x.i), .lit (.int .i64 x.n), .lit (.int .u8 x.b), .agg [.lit (.int .i64 x.m.f), .lit (.int .i64 x.m.t), .lit (.string x.m.d.data.toList), .lit (.bool x.m.s)]] : DataW H).weights Try.prog 29 := by
    simp [DataW.weights, DataW.weightsEach, Try.underlying29, Try.underlying27]
  have := of_decide_eq_true (List.all_eq_true.1 h _ hs)
  rwa [Array.length_toList] at this
theorem bulk_op0 (x : Pst.Op) : x.m.d.size ≤ Rows.uptoBulk (.agg [.lit (.int .i64 x.k), .lit (.int .i64 x.i), .lit (.int .i64 x.n), .lit (.int .u8 x.b), .agg [.lit (.int .i64 x.m.f), .lit (.int .i64 x.m.t), .lit (.string x.m.d.data.toList), .lit (.bool x.m.s)]] : DataW H) := by
  simp only [Rows.uptoBulk, Rows.uptoBulkAll, Array.length_toList]
  show x.m.d.data.size ≤ _
  omega

theorem Lift.Given.ops {ts : List TypeId} {args : List Value} {ds : List (DataW H)} {before : List MemPlace} (h : Lift.Given enc Try.prog (37 :: ts) W base args ds before) :
    ∃ (A : Option Addr) (c : Nat) (l : List Pst.Op) (vs : List Value) (d : DataW H) (ds' : List (DataW H)) (q : List MemPlace), args = .slice A l.length c :: vs ∧ ds = d :: ds' ∧ opLay.Reads W W.heap.size A l ∧ (A = none → l = []) ∧
      (∀ x ∈ l, (Lit.int .i64 x.k).wf = true ∧ (Lit.int .i64 x.i).wf = true ∧ (Lit.int .i64 x.n).wf = true ∧ (Lit.int .u8 x.b).wf = true ∧ (Lit.int .i64 x.m.f).wf = true ∧ (Lit.int .i64 x.m.t).wf = true ∧ x.m.d.size ≤ reachBytes ∧ x.m.d.size ≤ Rows.uptoBulk d) ∧ l.length * 72 ≤ reachBytes ∧ l.length ≤ Rows.uptoBulk d ∧ l.length ≤ c ∧ Lift.Given enc Try.prog ts W base vs ds' q := by
  obtain ⟨A, c, l, vs, d, ds', q, h1, h2, h3, h4, h5, h6⟩ := h.things (L := opLay) opens_op cells_op bytes_op
  refine ⟨A, c, l, vs, d, ds', q, h1, h2, h3, h4, fun x hx => ?_, h6⟩
  obtain ⟨dx, ⟨g0, g1, g2, g3, g4, g5, gd⟩, gR, gB⟩ := h5 x hx
  rw [gd] at gR gB
  exact ⟨g0, g1, g2, g3, g4, g5, reach_op0 x gR, Nat.le_trans (bulk_op0 x) gB⟩
theorem Lift.Given.op {ts : List TypeId} {args : List Value} {ds : List (DataW H)} {before : List MemPlace} (h : Lift.Given enc Try.prog (29 :: ts) W base args ds before) :
    ∃ (x : Pst.Op) (vs : List Value) (d : DataW H) (ds' : List (DataW H)) (q : List MemPlace), args = opV x :: vs ∧ ds = d :: ds' ∧ ((Lit.int .i64 x.k).wf = true ∧ (Lit.int .i64 x.i).wf = true ∧ (Lit.int .i64 x.n).wf = true ∧ (Lit.int .u8 x.b).wf = true ∧ (Lit.int .i64 x.m.f).wf = true ∧ (Lit.int .i64 x.m.t).wf = true ∧ x.m.d.size ≤ reachBytes ∧ x.m.d.size ≤ Rows.uptoBulk d) ∧ Lift.Given enc Try.prog ts W base vs ds' q := by
  obtain ⟨x, vs, d, ds', q, h1, h2, ⟨g0, g1, g2, g3, g4, g5, gd⟩, gR, h6⟩ := h.thing (L := opLay) opens_op Try.underlying29
  subst gd
  exact ⟨x, vs, _, ds', q, h1, h2, ⟨g0, g1, g2, g3, g4, g5, reach_op0 x gR, bulk_op0 x⟩, h6⟩
end
end Go.Proofs.Ytkajnmlglgjocaa
