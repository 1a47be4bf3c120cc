/-
  Arguments that are logs, or calls of the law's rows, or slices of these.
  No condition but the form's own.
-/
import Derived.Test.YtakjggmiilkmdaaLTh
import Derived.Test.YtakjggmiilkmdaaJTold
import Derived.Test.YtakjggmiilkmdaaLogOp
import Derived.Test.YtakjggmiilkmdaaLEv
import Derived.OpenShut
import Derived.KernelRfl
set_option linter.unusedSimpArgs false
set_option linter.unusedVariables false
set_option maxRecDepth 100000
namespace Go.Proofs.Ytakjggmiilkmdaa
open Go.ChangeShapes Go.WideShapes Go.Deep Go.RowKit

/-- A call of a row, as it lies: its events' slice by its header. -/
structure Lop where
  k : Int
  f : Int
  m : Int
  A : Option Addr
  n : Nat
  c : Nat
def lopL (x : Lop) : List Value := [.int .i64 x.k, .int .i64 x.f, .int .i64 x.m, .slice x.A x.n x.c]
def lopLay : Lay Try.prog Lop where
  t := 49
  e := 26
  k := 4
  bytes := 48
  z := .agg (loC 0 0 0 (.slice none 0 0))
  f := lopL
  len := fun _ => rfl
  one := fun x u hu => by
    unfold lopL at hu
    simp only [List.mem_cons, List.not_mem_nil, or_false] at hu
    rcases hu with rfl | rfl | rfl | rfl <;> rfl
  und := Try.underlying49
  info := info_loz
  zs := rfl
  pos := by decide
  small := by decide
def inI (n : Int) : Prop := -9223372036854775808 ≤ n ∧ n ≤ 9223372036854775807
def lopF (x : Lop) : Prop := inI x.k ∧ inI x.f ∧ inI x.m ∧ x.n * 160 ≤ 140737488351232
section
variable {H : Type} {enc : TypeId × Value → H} {W : World} {base : Nat}
theorem cells_lg : Try.prog.cellsOf 24 = 4 := by kernel_rfl
theorem cells_lo : Try.prog.cellsOf 26 = 4 := by kernel_rfl
theorem bytes_lo : Try.prog.bytesOf 26 = 48 := by kernel_rfl
theorem i64_in {x : Int} (h : (Lit.int .i64 x).wf = true) : inI x := by
  have h1 : -9223372036854775808 ≤ x ∧ x ≤ 9223372036854775807 := by simpa [Lit.wf, IntKind.min, IntKind.max, IntKind.signed, IntKind.bits] using h
  exact h1
set_option maxHeartbeats 3200000 in
theorem Lift.Given.log {ts : List TypeId} {args : List Value} {ds : List (DataW H)} {before : List MemPlace} (h : Lift.Given enc Try.prog (24 :: ts) W base args ds before) :
    ∃ (l : Lg) (A : Option Addr) (c : Nat) (vs : List Value) (d : DataW H) (ds' : List (DataW H)) (q : List MemPlace), args = .agg (lgC l.b l.c l.d (.slice A l.ev.length c)) :: vs ∧ ds = d :: ds' ∧
      Sls evLay lvF W A l.ev.length c l.ev ∧ Lift.Given enc Try.prog ts W base vs ds' q := by
  obtain ⟨v, vs, d, ds', p, q, rfl, rfl, rfl, h0, hok, _, hw, hg⟩ := h.cons
  obtain ⟨fuel, h0⟩ := h0
  obtain ⟨cs, rfl, hsz⟩ := okWide_struct Try.underlying24 hok
  have hcl : (Value.agg cs).cells.toList = cs.toList := by simp [Value.cells]
  rw [hcl] at h0
  obtain ⟨ys, m, _, hx, hlen, hyl, hf⟩ := DataW.trod_struct Try.underlying24 h0
  have hlen : cs.toList.length = Try.prog.cellsOf 24 := hlen
  rw [cells_lg] at hlen
  obtain ⟨cl⟩ := cs
  match cl, hlen, ys, hyl with
  | [v0, v1, v2, v3], _, [y0, y1, y2, (d3, p3)], _ =>
    have f0 := hf 0 _ rfl
    have f1 := hf 1 _ rfl
    have f2 := hf 2 _ rfl
    have f3 := hf 3 _ rfl
    simp only [List.getElem?_cons_zero, List.getElem?_cons_succ] at f0 f1 f2 f3
    obtain ⟨a0, e0, g0, w0⟩ := DataW.trod_int Try.underlying3 f0
    obtain ⟨a1, e1, g1, w1⟩ := DataW.trod_int Try.underlying3 f1
    obtain ⟨a2, e2, g2, w2⟩ := DataW.trod_int Try.underlying3 f2
    have hd : d = .agg [y0.1, y1.1, y2.1, d3] := congrArg Prod.fst hx
    rw [hd] at hw
    unfold DataW.weights at hw
    rw [Try.underlying24] at hw
    simp only [List.map_cons, List.map_nil, DataW.weightsEach, List.all_append, Bool.and_eq_true] at hw
    obtain ⟨_, _, _, hw3, _⟩ := hw
    obtain ⟨A, c, l, hc, rd, nl, gd, bd, _, kd⟩ := lthings_cells (L := evLay) opens_ev cells_ev bytes_ev (cs := [v3]) f3 hw3
    injection hc with hc
    cases e0; cases e1; cases e2
    subst hc
    have hb : l.length * 160 ≤ 140737488351232 := bd
    refine ⟨⟨a0, a1, a2, l⟩, A, c, vs, d, ds', q, rfl, rfl, ⟨rfl, kd, rd, nl, fun x hx => ?_, by show l.length * 160 ≤ _; omega⟩, hg⟩
    obtain ⟨_, g, _⟩ := gd x hx
    exact g
/-- A call's struct: numbers in their bounds; its events. -/
theorem op_cells {fuel : Nat} {cs : List Value} {d : DataW H} {p : List MemPlace} (h0 : DataW.trod enc Try.prog W 0 (fun _ => true) true fuel 26 cs = some (d, p)) :
    ∃ (k f m : Int) (v3 : Value) (d3 : DataW H) (p3 : List MemPlace) (n : Nat), cs = [.int .i64 k, .int .i64 f, .int .i64 m, v3] ∧ inI k ∧ inI f ∧ inI m ∧ DataW.trod enc Try.prog W 0 (fun _ => true) true n 22 [v3] = some (d3, p3) ∧ ((d.weights Try.prog 26).all (· ≤ reachBytes) = true → (d3.weights Try.prog 22).all (· ≤ reachBytes) = true) := by
  obtain ⟨ys, m, _, hx, hlen, hyl, hf⟩ := DataW.trod_struct Try.underlying26 h0
  have hlen : cs.length = Try.prog.cellsOf 26 := hlen
  rw [cells_lo] at hlen
  match cs, hlen, ys, hyl with
  | [v0, v1, v2, v3], _, [y0, y1, y2, (d3, p3)], _ =>
    have f0 := hf 0 _ rfl
    have f1 := hf 1 _ rfl
    have f2 := hf 2 _ rfl
    have f3 := hf 3 _ rfl
    simp only [List.getElem?_cons_zero, List.getElem?_cons_succ] at f0 f1 f2 f3
    obtain ⟨a0, e0, g0, w0⟩ := DataW.trod_int Try.underlying3 f0
    obtain ⟨a1, e1, g1, w1⟩ := DataW.trod_int Try.underlying3 f1
    obtain ⟨a2, e2, g2, w2⟩ := DataW.trod_int Try.underlying3 f2
    have hd : d = .agg [y0.1, y1.1, y2.1, d3] := congrArg Prod.fst hx
    cases e0; cases e1; cases e2
    refine ⟨a0, a1, a2, v3, d3, p3, _, rfl, i64_in w0, i64_in w1, i64_in w2, f3, fun hw => ?_⟩
    rw [hd] at hw
    unfold DataW.weights at hw
    rw [Try.underlying26] at hw
    simp only [List.map_cons, List.map_nil, DataW.weightsEach, List.all_append, Bool.and_eq_true] at hw
    exact hw.2.2.2.1
set_option maxHeartbeats 3200000 in
theorem Lift.Given.op {ts : List TypeId} {args : List Value} {ds : List (DataW H)} {before : List MemPlace} (h : Lift.Given enc Try.prog (26 :: ts) W base args ds before) :
    ∃ (k f m : Int) (es : List Cmd.E) (A : Option Addr) (c : Nat) (vs : List Value) (d : DataW H) (ds' : List (DataW H)) (q : List MemPlace), args = .agg (loC k f m (.slice A es.length c)) :: vs ∧ ds = d :: ds' ∧
      inI f ∧ Sls evLay lvF W A es.length c es ∧ Lift.Given enc Try.prog ts W base vs ds' q := by
  obtain ⟨v, vs, d, ds', p, q, rfl, rfl, rfl, h0, hok, _, hw, hg⟩ := h.cons
  obtain ⟨fuel, h0⟩ := h0
  obtain ⟨cs, rfl, hsz⟩ := okWide_struct Try.underlying26 hok
  have hcl : (Value.agg cs).cells.toList = cs.toList := by simp [Value.cells]
  rw [hcl] at h0
  obtain ⟨k, f, m, v3, d3, p3, n, hcs, hk, hf, hm, f3, hwt⟩ := op_cells h0
  obtain ⟨A, c, l, hc, rd, nl, gd, bd, _, kd⟩ := lthings_cells (L := evLay) opens_ev cells_ev bytes_ev (cs := [v3]) f3 (hwt hw)
  injection hc with hc
  subst hc
  have e : cs = (loC k f m (.slice A l.length c)) := by
    rw [← Array.toArray_toList (xs := cs), hcs]
    rfl
  subst e
  have hb : l.length * 160 ≤ 140737488351232 := bd
  refine ⟨k, f, m, l, A, c, vs, d, ds', q, rfl, rfl, hf, ⟨rfl, kd, rd, nl, fun x hx => ?_, by show l.length * 160 ≤ _; omega⟩, hg⟩
  obtain ⟨_, g, _⟩ := gd x hx
  exact g
theorem opens_lop : Opens enc lopLay (fun x d => inI x.k ∧ inI x.f ∧ inI x.m ∧ ((d.weights Try.prog 26).all (· ≤ reachBytes) = true → x.n * 160 ≤ 140737488351232)) := fun W n cs x ht => by
  obtain ⟨k, f, m, v3, d3, p3, n, hcs, hk, hf, hm, f3, hwt⟩ := op_cells (d := x.1) (p := x.2) ht
  rcases open_slice Try.underlying22 f3 with ⟨hv, _⟩ | ⟨a, len0, cap0, m2, n2, D, Pl, hv, _, hl, hm2, hmm, hx, hi⟩
  · injection hv with hv
    subst hv
    exact ⟨⟨k, f, m, none, 0, 0⟩, hcs, hk, hf, hm, fun _ => by show 0 * 160 ≤ _; decide⟩
  · injection hv with hv
    subst hv
    refine ⟨⟨k, f, m, some a, len0, cap0⟩, hcs, hk, hf, hm, fun hw => ?_⟩
    obtain ⟨A, c, l, hc, _, _, _, bd, _, _⟩ := lthings_cells (L := evLay) opens_ev cells_ev bytes_ev (cs := [.slice (some a) len0 cap0]) f3 (hwt hw)
    injection hc with hc
    injection hc with _ h2 _
    have hb : l.length * 160 ≤ 140737488351232 := bd
    show len0 * 160 ≤ _
    omega
theorem Lift.Given.ops {ts : List TypeId} {args : List Value} {ds : List (DataW H)} {before : List MemPlace} (h : Lift.Given enc Try.prog (49 :: ts) W base args ds before) :
    ∃ (A : Option Addr) (c : Nat) (l : List Lop) (vs : List Value) (d : DataW H) (ds' : List (DataW H)) (q : List MemPlace), args = .slice A l.length c :: vs ∧ ds = d :: ds' ∧ Sls lopLay lopF W A l.length c l ∧ Lift.Given enc Try.prog ts W base vs ds' q := by
  obtain ⟨A, c, l, vs, d, ds', q, h1, h2, h3, h4, h5, h6, _, h8, h9⟩ := h.things (L := lopLay) opens_lop cells_lo bytes_lo
  have hb : l.length * 48 ≤ 140737488351232 := h6
  refine ⟨A, c, l, vs, d, ds', q, h1, h2, ⟨rfl, h8, h3, h4, fun x hx => ?_, by show l.length * 48 ≤ _; omega⟩, h9⟩
  obtain ⟨dx, g, gR, _⟩ := h5 x hx
  exact ⟨g.1, g.2.1, g.2.2.1, g.2.2.2 gR⟩
end
end Go.Proofs.Ytakjggmiilkmdaa
