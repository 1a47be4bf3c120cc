/-
  How a PktS lies: its cells, a slice of them, an argument that is one or a slice of them. (Written by program: wip/gen/lay.py.)
  No condition but the form's own.
-/
import Derived.Test.YtamjcghdebjpjaaLayOpen
import Derived.Test.YtamjcghdebjpjaaNod
import Derived.Test.YtamjcghdebjpjaaNod
import Derived.KernelRfl
namespace Go.Proofs.Ytamjcghdebjpjaa
open Go.ChangeShapes Go.WideShapes Go.Deep Go.RowKit

namespace Lnk
structure PktS where
  f : Lnk.Nod
  t : Lnk.Nod
  q : Int
  a : Int
  b : ByteArray
end Lnk
theorem info_lpk : (Try.prog.info? 36).map (fun i => (i.zero, i.size, i.bytes)) = some (some (Value.agg #[.int .i64 0, .int .i64 0, .int .i64 0, .int .i64 0, .int .i64 0, .int .i64 0, .string ⟨#[]⟩]), 7, 64) := by kernel_rfl
def lpkLay : Lay Try.prog Lnk.PktS where
  t := 29
  e := 36
  k := 7
  bytes := 64
  z := .agg #[.int .i64 0, .int .i64 0, .int .i64 0, .int .i64 0, .int .i64 0, .int .i64 0, .string ⟨#[]⟩]
  f := fun x => [.int .i64 x.f.s, .int .i64 x.f.c, .int .i64 x.t.s, .int .i64 x.t.c, .int .i64 x.q, .int .i64 x.a, .string x.b]
  len := fun _ => rfl
  one := fun x u hu => by
    simp only [List.mem_cons, List.not_mem_nil, or_false] at hu
    rcases hu with rfl | rfl | rfl | rfl | rfl | rfl | rfl <;> rfl
  und := Try.underlying29
  info := info_lpk
  zs := rfl
  pos := by decide
  small := by decide
/-- The cells of number i behind an address. -/
theorem at_lpk {w : World} {b o i : Nat} {x : Lnk.PktS} (h : lpkLay.At w b o i x) : w.cell? ⟨b, o + i * 7, none⟩ = some (.int .i64 x.f.s) ∧ w.cell? ⟨b, o + i * 7 + 1, none⟩ = some (.int .i64 x.f.c) ∧ w.cell? ⟨b, o + i * 7 + 2, none⟩ = some (.int .i64 x.t.s) ∧ w.cell? ⟨b, o + i * 7 + 3, none⟩ = some (.int .i64 x.t.c) ∧ w.cell? ⟨b, o + i * 7 + 4, none⟩ = some (.int .i64 x.q) ∧ w.cell? ⟨b, o + i * 7 + 5, none⟩ = some (.int .i64 x.a) ∧ w.cell? ⟨b, o + i * 7 + 6, none⟩ = some (.string x.b) :=
  ⟨h 0 _ rfl, h 1 _ rfl, h 2 _ rfl, h 3 _ rfl, h 4 _ rfl, h 5 _ rfl, h 6 _ rfl⟩
/-- It as a struct's value. -/
def lpkV (x : Lnk.PktS) : Value := .agg #[.int .i64 x.f.s, .int .i64 x.f.c, .int .i64 x.t.s, .int .i64 x.t.c, .int .i64 x.q, .int .i64 x.a, .string x.b]
theorem flat_lpk (x : Lnk.PktS) : #[Value.int .i64 x.f.s, .int .i64 x.f.c, .int .i64 x.t.s, .int .i64 x.t.c, .int .i64 x.q, .int .i64 x.a, .string x.b] = (lpkLay.flat [x]).toArray := rfl

section
variable {H : Type} {enc : TypeId × Value → H} {W : World} {base : Nat}
theorem cells_lpk : Try.prog.cellsOf 36 = 7 := by kernel_rfl
theorem bytes_lpk : Try.prog.bytesOf 36 = 64 := by kernel_rfl
def GoodLpk (x : Lnk.PktS) (d : DataW H) : Prop := (Lit.int .i64 x.f.s).wf = true ∧ (Lit.int .i64 x.f.c).wf = true ∧ (Lit.int .i64 x.t.s).wf = true ∧ (Lit.int .i64 x.t.c).wf = true ∧ (Lit.int .i64 x.q).wf = true ∧ (Lit.int .i64 x.a).wf = true ∧ d = .agg [.agg [.lit (.int .i64 x.f.s), .lit (.int .i64 x.f.c)], .agg [.lit (.int .i64 x.t.s), .lit (.int .i64 x.t.c)], .lit (.int .i64 x.q), .lit (.int .i64 x.a), .lit (.string x.b.data.toList)]
theorem opens_lpk : Opens enc lpkLay GoodLpk := fun W n cs x ht => by
  obtain ⟨ys, m, _, hx, hlen, hyl, hf⟩ := DataW.trod_struct Try.underlying36 ht
  have hlen : cs.length = Try.prog.cellsOf 36 := hlen
  rw [cells_lpk] at hlen
  match cs, hlen, ys, hyl with
  | [v0, v1, v2, v3, v4, v5, v6], _, [y0, y1, y2, y3, y4], _ =>
    have f0 := hf 0 _ rfl
    have f1 := hf 1 _ rfl
    have f2 := hf 2 _ rfl
    have f3 := hf 3 _ rfl
    have f4 := hf 4 _ rfl
    simp only [List.getElem?_cons_zero, List.getElem?_cons_succ] at f0 f1 f2 f3 f4
    obtain ⟨a0, e0, w0_0, w0_1, g0⟩ := opens_nod (enc := enc) W _ _ _ f0
    cases e0
    obtain ⟨a1, e1, w1_0, w1_1, g1⟩ := opens_nod (enc := enc) W _ _ _ f1
    cases e1
    obtain ⟨a2, e2, g2, w2⟩ := DataW.trod_int Try.underlying3 f2
    cases e2; subst g2
    obtain ⟨a3, e3, g3, w3⟩ := DataW.trod_int Try.underlying3 f3
    cases e3; subst g3
    obtain ⟨a4, e4, g4, _⟩ := DataW.trod_string Try.underlying9 f4
    cases e4; subst g4
    exact ⟨⟨a0, a1, a2, a3, a4⟩, rfl, w0_0, w0_1, w1_0, w1_1, w2, w3, by rw [hx]; simp only [List.map_cons, List.map_nil, g0, g1]⟩
theorem reach_lpk0 (x : Lnk.PktS) (h : ((.agg [.agg [.lit (.int .i64 x.f.s), .lit (.int .i64 x.f.c)], .agg [.lit (.int .i64 x.t.s), .lit (.int .i64 x.t.c)], .lit (.int .i64 x.q), .lit (.int .i64 x.a), .lit (.string x.b.data.toList)] : DataW H).weights Try.prog 36).all (· ≤ reachBytes) = true) : x.b.size ≤ reachBytes := by
  have hs : x.b.data.toList.length ∈ (.agg [.agg [.lit (.int .i64 x.f.s), .lit (.int .i64 x.f.c)], .agg [.lit (.int .i64 x.t.s), .lit (.int .i64 x.t.c)], .lit (.int .i64 x.q), .lit (.int .i64 x.a), .lit (.string x.b.data.toList)] : DataW H).weights Try.prog 36 := by
    simp [DataW.weights, DataW.weightsEach, Try.underlying36, Try.underlying23, Try.underlying23]
  have := of_decide_eq_true (List.all_eq_true.1 h _ hs)
  rwa [Array.length_toList] at this
theorem bulk_lpk0 (x : Lnk.PktS) : x.b.size ≤ Rows.uptoBulk (.agg [.agg [.lit (.int .i64 x.f.s), .lit (.int .i64 x.f.c)], .agg [.lit (.int .i64 x.t.s), .lit (.int .i64 x.t.c)], .lit (.int .i64 x.q), .lit (.int .i64 x.a), .lit (.string x.b.data.toList)] : DataW H) := by
  simp only [Rows.uptoBulk, Rows.uptoBulkAll, Array.length_toList]
  show x.b.data.size ≤ _
  omega

theorem Lift.Given.lpks {ts : List TypeId} {args : List Value} {ds : List (DataW H)} {before : List MemPlace} (h : Lift.Given enc Try.prog (29 :: ts) W base args ds before) :
    ∃ (A : Option Addr) (c : Nat) (l : List Lnk.PktS) (vs : List Value) (d : DataW H) (ds' : List (DataW H)) (q : List MemPlace), args = .slice A l.length c :: vs ∧ ds = d :: ds' ∧ lpkLay.Reads W W.heap.size A l ∧ (A = none → l = []) ∧
      (∀ x ∈ l, (Lit.int .i64 x.f.s).wf = true ∧ (Lit.int .i64 x.f.c).wf = true ∧ (Lit.int .i64 x.t.s).wf = true ∧ (Lit.int .i64 x.t.c).wf = true ∧ (Lit.int .i64 x.q).wf = true ∧ (Lit.int .i64 x.a).wf = true ∧ x.b.size ≤ reachBytes ∧ x.b.size ≤ Rows.uptoBulk d) ∧ l.length * 64 ≤ reachBytes ∧ l.length ≤ Rows.uptoBulk d ∧ l.length ≤ c ∧ Lift.Given enc Try.prog ts W base vs ds' q := by
  obtain ⟨A, c, l, vs, d, ds', q, h1, h2, h3, h4, h5, h6⟩ := h.things (L := lpkLay) opens_lpk cells_lpk bytes_lpk
  refine ⟨A, c, l, vs, d, ds', q, h1, h2, h3, h4, fun x hx => ?_, h6⟩
  obtain ⟨dx, ⟨g0, g1, g2, g3, g4, g5, gd⟩, gR, gB⟩ := h5 x hx
  rw [gd] at gR gB
  exact ⟨g0, g1, g2, g3, g4, g5, reach_lpk0 x gR, Nat.le_trans (bulk_lpk0 x) gB⟩
theorem Lift.Given.lpk {ts : List TypeId} {args : List Value} {ds : List (DataW H)} {before : List MemPlace} (h : Lift.Given enc Try.prog (36 :: ts) W base args ds before) :
    ∃ (x : Lnk.PktS) (vs : List Value) (d : DataW H) (ds' : List (DataW H)) (q : List MemPlace), args = lpkV x :: vs ∧ ds = d :: ds' ∧ ((Lit.int .i64 x.f.s).wf = true ∧ (Lit.int .i64 x.f.c).wf = true ∧ (Lit.int .i64 x.t.s).wf = true ∧ (Lit.int .i64 x.t.c).wf = true ∧ (Lit.int .i64 x.q).wf = true ∧ (Lit.int .i64 x.a).wf = true ∧ x.b.size ≤ reachBytes ∧ x.b.size ≤ Rows.uptoBulk d) ∧ Lift.Given enc Try.prog ts W base vs ds' q := by
  obtain ⟨x, vs, d, ds', q, h1, h2, ⟨g0, g1, g2, g3, g4, g5, gd⟩, gR, h6⟩ := h.thing (L := lpkLay) opens_lpk Try.underlying36
  subst gd
  exact ⟨x, vs, _, ds', q, h1, h2, ⟨g0, g1, g2, g3, g4, g5, reach_lpk0 x gR, bulk_lpk0 x⟩, h6⟩
end
end Go.Proofs.Ytamjcghdebjpjaa
