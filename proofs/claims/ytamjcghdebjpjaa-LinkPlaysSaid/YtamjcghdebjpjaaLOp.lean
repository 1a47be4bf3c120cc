/-
  How a OpS lies: its cells, a slice of them, an argument that is one or a slice of them. (Written by program: wip/gen/lay.py.)
  No condition but the form's own.
-/
import Derived.Test.YtamjcghdebjpjaaLayOpen
import Derived.Test.YtamjcghdebjpjaaLPkt
import Derived.KernelRfl
namespace Go.Proofs.Ytamjcghdebjpjaa
open Go.ChangeShapes Go.WideShapes Go.Deep Go.RowKit

namespace Lnk
structure OpS where
  k : Int
  n : Int
  b : ByteArray
  p : Lnk.PktS
end Lnk
theorem info_lop : (Try.prog.info? 38).map (fun i => (i.zero, i.size, i.bytes)) = some (some (Value.agg #[.int .i64 0, .int .i64 0, .string ⟨#[]⟩, .int .i64 0, .int .i64 0, .int .i64 0, .int .i64 0, .int .i64 0, .int .i64 0, .string ⟨#[]⟩]), 10, 96) := by kernel_rfl
def lopLay : Lay Try.prog Lnk.OpS where
  t := 24
  e := 38
  k := 10
  bytes := 96
  z := .agg #[.int .i64 0, .int .i64 0, .string ⟨#[]⟩, .int .i64 0, .int .i64 0, .int .i64 0, .int .i64 0, .int .i64 0, .int .i64 0, .string ⟨#[]⟩]
  f := fun x => [.int .i64 x.k, .int .i64 x.n, .string x.b, .int .i64 x.p.f.s, .int .i64 x.p.f.c, .int .i64 x.p.t.s, .int .i64 x.p.t.c, .int .i64 x.p.q, .int .i64 x.p.a, .string x.p.b]
  len := fun _ => rfl
  one := fun x u hu => by
    simp only [List.mem_cons, List.not_mem_nil, or_false] at hu
    rcases hu with rfl | rfl | rfl | rfl | rfl | rfl | rfl | rfl | rfl | rfl <;> rfl
  und := Try.underlying24
  info := info_lop
  zs := rfl
  pos := by decide
  small := by decide
/-- The cells of number i behind an address. -/
theorem at_lop {w : World} {b o i : Nat} {x : Lnk.OpS} (h : lopLay.At w b o i x) : w.cell? ⟨b, o + i * 10, none⟩ = some (.int .i64 x.k) ∧ w.cell? ⟨b, o + i * 10 + 1, none⟩ = some (.int .i64 x.n) ∧ w.cell? ⟨b, o + i * 10 + 2, none⟩ = some (.string x.b) ∧ w.cell? ⟨b, o + i * 10 + 3, none⟩ = some (.int .i64 x.p.f.s) ∧ w.cell? ⟨b, o + i * 10 + 4, none⟩ = some (.int .i64 x.p.f.c) ∧ w.cell? ⟨b, o + i * 10 + 5, none⟩ = some (.int .i64 x.p.t.s) ∧ w.cell? ⟨b, o + i * 10 + 6, none⟩ = some (.int .i64 x.p.t.c) ∧ w.cell? ⟨b, o + i * 10 + 7, none⟩ = some (.int .i64 x.p.q) ∧ w.cell? ⟨b, o + i * 10 + 8, none⟩ = some (.int .i64 x.p.a) ∧ w.cell? ⟨b, o + i * 10 + 9, none⟩ = some (.string x.p.b) :=
  ⟨h 0 _ rfl, h 1 _ rfl, h 2 _ rfl, h 3 _ rfl, h 4 _ rfl, h 5 _ rfl, h 6 _ rfl, h 7 _ rfl, h 8 _ rfl, h 9 _ rfl⟩
/-- It as a struct's value. -/
def lopV (x : Lnk.OpS) : Value := .agg #[.int .i64 x.k, .int .i64 x.n, .string x.b, .int .i64 x.p.f.s, .int .i64 x.p.f.c, .int .i64 x.p.t.s, .int .i64 x.p.t.c, .int .i64 x.p.q, .int .i64 x.p.a, .string x.p.b]
theorem flat_lop (x : Lnk.OpS) : #[Value.int .i64 x.k, .int .i64 x.n, .string x.b, .int .i64 x.p.f.s, .int .i64 x.p.f.c, .int .i64 x.p.t.s, .int .i64 x.p.t.c, .int .i64 x.p.q, .int .i64 x.p.a, .string x.p.b] = (lopLay.flat [x]).toArray := rfl

section
variable {H : Type} {enc : TypeId × Value → H} {W : World} {base : Nat}
theorem cells_lop : Try.prog.cellsOf 38 = 10 := by kernel_rfl
theorem bytes_lop : Try.prog.bytesOf 38 = 96 := by kernel_rfl
def GoodLop (x : Lnk.OpS) (d : DataW H) : Prop := (Lit.int .i64 x.k).wf = true ∧ (Lit.int .i64 x.n).wf = true ∧ (Lit.int .i64 x.p.f.s).wf = true ∧ (Lit.int .i64 x.p.f.c).wf = true ∧ (Lit.int .i64 x.p.t.s).wf = true ∧ (Lit.int .i64 x.p.t.c).wf = true ∧ (Lit.int .i64 x.p.q).wf = true ∧ (Lit.int .i64 x.p.a).wf = true ∧ d = .agg [.lit (.int .i64 x.k), .lit (.int .i64 x.n), .lit (.string x.b.data.toList), .agg [.agg [.lit (.int .i64 x.p.f.s), .lit (.int .i64 x.p.f.c)], .agg [.lit (.int .i64 x.p.t.s), .lit (.int .i64 x.p.t.c)], .lit (.int .i64 x.p.q), .lit (.int .i64 x.p.a), .lit (.string x.p.b.data.toList)]]
theorem opens_lop : Opens enc lopLay GoodLop := fun W n cs x ht => by
  obtain ⟨ys, m, _, hx, hlen, hyl, hf⟩ := DataW.trod_struct Try.underlying38 ht
  have hlen : cs.length = Try.prog.cellsOf 38 := hlen
  rw [cells_lop] at hlen
  match cs, hlen, ys, hyl with
  | [v0, v1, v2, v3, v4, v5, v6, v7, v8, v9], _, [y0, y1, y2, y3], _ =>
    have f0 := hf 0 _ rfl
    have f1 := hf 1 _ rfl
    have f2 := hf 2 _ rfl
    have f3 := hf 3 _ rfl
    simp only [List.getElem?_cons_zero, List.getElem?_cons_succ] at f0 f1 f2 f3
    obtain ⟨a0, e0, g0, w0⟩ := DataW.trod_int Try.underlying3 f0
    cases e0; subst g0
    obtain ⟨a1, e1, g1, w1⟩ := DataW.trod_int Try.underlying3 f1
    cases e1; subst g1
    obtain ⟨a2, e2, g2, _⟩ := DataW.trod_string Try.underlying9 f2
    cases e2; subst g2
    obtain ⟨a3, e3, w3_0, w3_1, w3_2, w3_3, w3_4, w3_5, g3⟩ := opens_lpk (enc := enc) W _ _ _ f3
    cases e3
    exact ⟨⟨a0, a1, a2, a3⟩, rfl, w0, w1, w3_0, w3_1, w3_2, w3_3, w3_4, w3_5, by rw [hx]; simp only [List.map_cons, List.map_nil, g3]⟩
theorem reach_lop0 (x : Lnk.OpS) (h : ((.agg [.lit (.int .i64 x.k), .lit (.int .i64 x.n), .lit (.string x.b.data.toList), .agg [.agg [.lit (.int .i64 x.p.f.s), .lit (.int .i64 x.p.f.c)], .agg [.lit (.int .i64 x.p.t.s), .lit (.int .i64 x.p.t.c)], .lit (.int .i64 x.p.q), .lit (.int .i64 x.p.a), .lit (.string x.p.b.data.toList)]] : DataW H).weights Try.prog 38).all (· ≤ reachBytes) = true) : x.b.size ≤ reachBytes := by
  have hs : x.b.data.toList.length ∈ (.agg [.lit (.int .i64 x.k), .lit (.int .i64 x.n), .lit (.string x.b.data.toList), .agg [.agg [.lit (.int .i64 x.p.f.s), .lit (.int .i64 x.p.f.c)], .agg [.lit (.int .i64 x.p.t.s), .lit (.int .i64 x.p.t.c)], .lit (.int .i64 x.p.q), .lit (.int .i64 x.p.a), .lit (.string x.p.b.data.toList)]] : DataW H).weights Try.prog 38 := by
    simp [DataW.weights, DataW.weightsEach, Try.underlying38, Try.underlying36, Try.underlying23, Try.underlying23]
  have := of_decide_eq_true (List.all_eq_true.1 h _ hs)
  rwa [Array.length_toList] at this
theorem bulk_lop0 (x : Lnk.OpS) : x.b.size ≤ Rows.uptoBulk (.agg [.lit (.int .i64 x.k), .lit (.int .i64 x.n), .lit (.string x.b.data.toList), .agg [.agg [.lit (.int .i64 x.p.f.s), .lit (.int .i64 x.p.f.c)], .agg [.lit (.int .i64 x.p.t.s), .lit (.int .i64 x.p.t.c)], .lit (.int .i64 x.p.q), .lit (.int .i64 x.p.a), .lit (.string x.p.b.data.toList)]] : DataW H) := by
  simp only [Rows.uptoBulk, Rows.uptoBulkAll, Array.length_toList]
  show x.b.data.size ≤ _
  omega
theorem reach_lop1 (x : Lnk.OpS) (h : ((.agg [.lit (.int .i64 x.k), .lit (.int .i64 x.n), .lit (.string x.b.data.toList), .agg [.agg [.lit (.int .i64 x.p.f.s), .lit (.int .i64 x.p.f.c)], .agg [.lit (.int .i64 x.p.t.s), .lit (.int .i64 x.p.t.c)], .lit (.int .i64 x.p.q), .lit (.int .i64 x.p.a), .lit (.string x.p.b.data.toList)]] : DataW H).weights Try.prog 38).all (· ≤ reachBytes) = true) : x.p.b.size ≤ reachBytes := by
  have hs : x.p.b.data.toList.length ∈ (.agg [.lit (.int .i64 x.k), .lit (.int .i64 x.n), .lit (.string x.b.data.toList), .agg [.agg [.lit (.int .i64 x.p.f.s), .lit (.int .i64 x.p.f.c)], .agg [.lit (.int .i64 x.p.t.s), .lit (.int .i64 x.p.t.c)], .lit (.int .i64 x.p.q), .lit (.int .i64 x.p.a), .lit (.string x.p.b.data.toList)]] : DataW H).weights Try.prog 38 := by
    simp [DataW.weights, DataW.weightsEach, Try.underlying38, Try.underlying36, Try.underlying23, Try.underlying23]
  have := of_decide_eq_true (List.all_eq_true.1 h _ hs)
  rwa [Array.length_toList] at this
theorem bulk_lop1 (x : Lnk.OpS) : x.p.b.size ≤ Rows.uptoBulk (.agg [.lit (.int .i64 x.k), .lit (.int .i64 x.n), .lit (.string x.b.data.toList), .agg [.agg [.lit (.int .i64 x.p.f.s), .lit (.int .i64 x.p.f.c)], .agg [.lit (.int .i64 x.p.t.s), .lit (.int .i64 x.p.t.c)], .lit (.int .i64 x.p.q), .lit (.int .i64 x.p.a), .lit (.string x.p.b.data.toList)]] : DataW H) := by
  simp only [Rows.uptoBulk, Rows.uptoBulkAll, Array.length_toList]
  show x.p.b.data.size ≤ _
  omega

theorem Lift.Given.lops {ts : List TypeId} {args : List Value} {ds : List (DataW H)} {before : List MemPlace} (h : Lift.Given enc Try.prog (24 :: ts) W base args ds before) :
    ∃ (A : Option Addr) (c : Nat) (l : List Lnk.OpS) (vs : List Value) (d : DataW H) (ds' : List (DataW H)) (q : List MemPlace), args = .slice A l.length c :: vs ∧ ds = d :: ds' ∧ lopLay.Reads W W.heap.size A l ∧ (A = none → l = []) ∧
      (∀ x ∈ l, (Lit.int .i64 x.k).wf = true ∧ (Lit.int .i64 x.n).wf = true ∧ (Lit.int .i64 x.p.f.s).wf = true ∧ (Lit.int .i64 x.p.f.c).wf = true ∧ (Lit.int .i64 x.p.t.s).wf = true ∧ (Lit.int .i64 x.p.t.c).wf = true ∧ (Lit.int .i64 x.p.q).wf = true ∧ (Lit.int .i64 x.p.a).wf = true ∧ x.b.size ≤ reachBytes ∧ x.b.size ≤ Rows.uptoBulk d ∧ x.p.b.size ≤ reachBytes ∧ x.p.b.size ≤ Rows.uptoBulk d) ∧ l.length * 96 ≤ reachBytes ∧ l.length ≤ Rows.uptoBulk d ∧ l.length ≤ c ∧ Lift.Given enc Try.prog ts W base vs ds' q := by
  obtain ⟨A, c, l, vs, d, ds', q, h1, h2, h3, h4, h5, h6⟩ := h.things (L := lopLay) opens_lop cells_lop bytes_lop
  refine ⟨A, c, l, vs, d, ds', q, h1, h2, h3, h4, fun x hx => ?_, h6⟩
  obtain ⟨dx, ⟨g0, g1, g2, g3, g4, g5, g6, g7, gd⟩, gR, gB⟩ := h5 x hx
  rw [gd] at gR gB
  exact ⟨g0, g1, g2, g3, g4, g5, g6, g7, reach_lop0 x gR, Nat.le_trans (bulk_lop0 x) gB, reach_lop1 x gR, Nat.le_trans (bulk_lop1 x) gB⟩
theorem Lift.Given.lop {ts : List TypeId} {args : List Value} {ds : List (DataW H)} {before : List MemPlace} (h : Lift.Given enc Try.prog (38 :: ts) W base args ds before) :
    ∃ (x : Lnk.OpS) (vs : List Value) (d : DataW H) (ds' : List (DataW H)) (q : List MemPlace), args = lopV x :: vs ∧ ds = d :: ds' ∧ ((Lit.int .i64 x.k).wf = true ∧ (Lit.int .i64 x.n).wf = true ∧ (Lit.int .i64 x.p.f.s).wf = true ∧ (Lit.int .i64 x.p.f.c).wf = true ∧ (Lit.int .i64 x.p.t.s).wf = true ∧ (Lit.int .i64 x.p.t.c).wf = true ∧ (Lit.int .i64 x.p.q).wf = true ∧ (Lit.int .i64 x.p.a).wf = true ∧ x.b.size ≤ reachBytes ∧ x.b.size ≤ Rows.uptoBulk d ∧ x.p.b.size ≤ reachBytes ∧ x.p.b.size ≤ Rows.uptoBulk d) ∧ Lift.Given enc Try.prog ts W base vs ds' q := by
  obtain ⟨x, vs, d, ds', q, h1, h2, ⟨g0, g1, g2, g3, g4, g5, g6, g7, gd⟩, gR, h6⟩ := h.thing (L := lopLay) opens_lop Try.underlying38
  subst gd
  exact ⟨x, vs, _, ds', q, h1, h2, ⟨g0, g1, g2, g3, g4, g5, g6, g7, reach_lop0 x gR, bulk_lop0 x, reach_lop1 x gR, bulk_lop1 x⟩, h6⟩
end
end Go.Proofs.Ytamjcghdebjpjaa
