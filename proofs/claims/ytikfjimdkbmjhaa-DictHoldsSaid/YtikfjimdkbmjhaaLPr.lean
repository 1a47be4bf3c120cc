/-
  Arguments that are slices of pairs, of the calls of a row, arrays of two values, of two strings.
  No condition but the form's own.
-/
import Derived.Test.YtikfjimdkbmjhaaLVal
import Derived.Test.YtikfjimdkbmjhaaPrLay
import Derived.OpenShut
namespace Go.Proofs.Ytikfjimdkbmjhaa
open Go.ChangeShapes Go.WideShapes Go.Deep Go.RowKit

namespace Dct
/-- A call of a row. -/
structure Op where
  key : ByteArray
  v : Val.V
  old : Val.V
  sw : Bool
end Dct
def opL (o : Dct.Op) : List Value := [.string o.key, .int .i64 o.v.k, .int .i64 o.v.n, .int .u64 (o.v.f : Int), .string o.v.s, .int .i64 o.old.k, .int .i64 o.old.n, .int .u64 (o.old.f : Int), .string o.old.s, .bool o.sw]
theorem info_opl : (Try.prog.info? 45).map (fun i => (i.zero, i.size, i.bytes)) = some (some (Value.agg #[.string ⟨#[]⟩, .int .i64 0, .int .i64 0, .int .u64 0, .string ⟨#[]⟩, .int .i64 0, .int .i64 0, .int .u64 0, .string ⟨#[]⟩, .bool false]), 10, 104) := by kernel_rfl
def opLay : Lay Try.prog Dct.Op where
  t := 43
  e := 45
  k := 10
  bytes := 104
  z := .agg #[.string ⟨#[]⟩, .int .i64 0, .int .i64 0, .int .u64 0, .string ⟨#[]⟩, .int .i64 0, .int .i64 0, .int .u64 0, .string ⟨#[]⟩, .bool false]
  f := opL
  len := fun _ => rfl
  one := fun x u hu => by
    unfold opL at hu
    simp only [List.mem_cons, List.not_mem_nil, or_false] at hu
    rcases hu with rfl | rfl | rfl | rfl | rfl | rfl | rfl | rfl | rfl | rfl <;> rfl
  und := Try.underlying43
  info := info_opl
  zs := rfl
  pos := by decide
  small := by decide
section
variable {H : Type} {enc : TypeId × Value → H} {W : World} {base : Nat}
theorem cells_pr : Try.prog.cellsOf 47 = 5 := by kernel_rfl
theorem bytes_pr : Try.prog.bytesOf 47 = 56 := by kernel_rfl
theorem cells_op : Try.prog.cellsOf 45 = 10 := by kernel_rfl
theorem bytes_op : Try.prog.bytesOf 45 = 104 := by kernel_rfl
theorem cells_str : Try.prog.cellsOf 9 = 1 := by kernel_rfl
theorem cells_v2 : Try.prog.cellsOf 38 = 8 := by kernel_rfl
theorem cells_s2 : Try.prog.cellsOf 41 = 2 := by kernel_rfl
theorem opens_pr : Opens enc prLay (fun p _ => p.val.f < 18446744073709551616) := fun W n cs x ht => by
  obtain ⟨ys, m, _, hx, hlen, hyl, hf⟩ := DataW.trod_struct Try.underlying47 ht
  have hlen : cs.length = Try.prog.cellsOf 47 := hlen
  rw [cells_pr] at hlen
  match cs, hlen, ys, hyl with
  | [v0, v1, v2, v3, v4], _, [y0, y1], _ =>
    have f0 := hf 0 _ rfl
    have f1 := hf 1 _ rfl
    simp only [List.getElem?_cons_zero, List.getElem?_cons_succ] at f0 f1
    obtain ⟨a0, e0, _, _⟩ := DataW.trod_string Try.underlying9 f0
    obtain ⟨a1, e1, w1⟩ := opens_val (enc := enc) W _ _ _ f1
    cases e0; cases e1
    exact ⟨⟨a0, a1⟩, rfl, w1⟩
theorem opens_op : Opens enc opLay (fun o _ => o.v.f < 18446744073709551616 ∧ o.old.f < 18446744073709551616) := fun W n cs x ht => by
  obtain ⟨ys, m, _, hx, hlen, hyl, hf⟩ := DataW.trod_struct Try.underlying45 ht
  have hlen : cs.length = Try.prog.cellsOf 45 := hlen
  rw [cells_op] at hlen
  match cs, hlen, ys, hyl with
  | [v0, v1, v2, v3, v4, v5, v6, v7, v8, v9], _, [y0, y1, y2, y3], _ =>
    have f0 := hf 0 _ rfl
    have f1 := hf 1 _ rfl
    have f2 := hf 2 _ rfl
    have f3 := hf 3 _ rfl
    simp only [List.getElem?_cons_zero, List.getElem?_cons_succ] at f0 f1 f2 f3
    obtain ⟨a0, e0, _, _⟩ := DataW.trod_string Try.underlying9 f0
    obtain ⟨a1, e1, w1⟩ := opens_val (enc := enc) W _ _ _ f1
    obtain ⟨a2, e2, w2⟩ := opens_val (enc := enc) W _ _ _ f2
    obtain ⟨a3, e3, _, _⟩ := DataW.trod_bool Try.underlying4 f3
    cases e0; cases e1; cases e2; cases e3
    exact ⟨⟨a0, a1, a2, a3⟩, rfl, w1, w2⟩
theorem okWide_arr {P : Program} {w : World} {r : Reach} {b n : Nat} {e t : TypeId} {v : Value} (ht : P.underlying t = some (.array n e)) (h : Value.okWide P w r b t v) : ∃ cs, v = .agg cs ∧ cs.size = P.cellsOf t := by
  simp only [Value.okWide, ht] at h
  obtain ⟨cs, h1, h2, _⟩ := h
  exact ⟨cs, h1, h2⟩
theorem Lift.Given.prs {ts : List TypeId} {args : List Value} {ds : List (DataW H)} {before : List MemPlace} (h : Lift.Given enc Try.prog (22 :: ts) W base args ds before) :
    ∃ (A : Option Addr) (c : Nat) (l : List Dct.Pr) (vs : List Value) (d : DataW H) (ds' : List (DataW H)) (q : List MemPlace), args = .slice A l.length c :: vs ∧ ds = d :: ds' ∧ Sl W A l.length c l ∧ Lift.Given enc Try.prog ts W base vs ds' q := by
  obtain ⟨A, c, l, vs, d, ds', q, h1, h2, h3, h4, h5, h6, _, h8, h9⟩ := h.things (L := prLay) opens_pr cells_pr bytes_pr
  have hb : l.length * 56 ≤ reachBytes := h6
  refine ⟨A, c, l, vs, d, ds', q, h1, h2, ⟨rfl, h8, h3, h4, fun x hx => ?_, ?_⟩, h9⟩
  · obtain ⟨dx, g, _⟩ := h5 x hx
    exact g
  · have : reachBytes = 140737488351232 := rfl
    omega
theorem Lift.Given.ops {ts : List TypeId} {args : List Value} {ds : List (DataW H)} {before : List MemPlace} (h : Lift.Given enc Try.prog (43 :: ts) W base args ds before) :
    ∃ (A : Option Addr) (c : Nat) (l : List Dct.Op) (vs : List Value) (d : DataW H) (ds' : List (DataW H)) (q : List MemPlace), args = .slice A l.length c :: vs ∧ ds = d :: ds' ∧ opLay.Reads W W.heap.size A l ∧ (∀ x ∈ l, x.v.f < 18446744073709551616 ∧ x.old.f < 18446744073709551616) ∧ l.length ≤ 1353245080300 ∧ Lift.Given enc Try.prog ts W base vs ds' q := by
  obtain ⟨A, c, l, vs, d, ds', q, h1, h2, h3, h4, h5, h6, _, h8, h9⟩ := h.things (L := opLay) opens_op cells_op bytes_op
  have hb : l.length * 104 ≤ reachBytes := h6
  refine ⟨A, c, l, vs, d, ds', q, h1, h2, h3, fun x hx => ?_, ?_, h9⟩
  · obtain ⟨dx, g, _⟩ := h5 x hx
    exact g
  · have : reachBytes = 140737488351232 := rfl
    omega
theorem Lift.Given.v2 {ts : List TypeId} {args : List Value} {ds : List (DataW H)} {before : List MemPlace} (h : Lift.Given enc Try.prog (38 :: ts) W base args ds before) :
    ∃ (x y : Val.V) (vs : List Value) (d : DataW H) (ds' : List (DataW H)) (q : List MemPlace), args = .agg (vaL x ++ vaL y).toArray :: vs ∧ ds = d :: ds' ∧ x.f < 18446744073709551616 ∧ y.f < 18446744073709551616 ∧ Lift.Given enc Try.prog ts W base vs ds' q := by
  obtain ⟨v, vs, d, ds', p, q, rfl, rfl, rfl, h0, hok, _, hw, hg⟩ := h.cons
  obtain ⟨fuel, h0⟩ := h0
  obtain ⟨cs, rfl, hsz⟩ := okWide_arr Try.underlying38 hok
  have h1 : DataW.trod enc Try.prog W 0 (fun _ => true) true fuel 38 cs.toList = some (d, p) := by simpa [Value.cells] using h0
  obtain ⟨xs, m, _, _, hlen, hxl, hel⟩ := DataW.trod_array Try.underlying38 h1
  rw [cells_v2] at hlen
  rw [cells_val] at hel
  generalize hcs : cs.toList = C at *
  match C, hlen, xs, hxl with
  | [v0, v1, v2, v3, v4, v5, v6, v7], _, [y0, y1], _ =>
    have f0 := hel 0 (by decide)
    have f1 := hel 1 (by decide)
    simp only [List.getElem?_cons_zero, List.getElem?_cons_succ] at f0 f1
    obtain ⟨a0, e0, w0⟩ := opens_val (enc := enc) W _ _ _ f0
    obtain ⟨a1, e1, w1⟩ := opens_val (enc := enc) W _ _ _ f1
    simp only [Nat.zero_mul, Nat.one_mul, List.drop_zero, List.take_succ_cons, List.take_zero, List.drop_succ_cons] at e0 e1
    refine ⟨a0, a1, vs, d, ds', q, ?_, rfl, w0, w1, hg⟩
    have e2 : cs = (vaL a0 ++ vaL a1).toArray := by
      apply Array.toList_inj.1
      rw [hcs, ← e0, ← e1]
      rfl
    rw [e2]
theorem Lift.Given.s2 {ts : List TypeId} {args : List Value} {ds : List (DataW H)} {before : List MemPlace} (h : Lift.Given enc Try.prog (41 :: ts) W base args ds before) :
    ∃ (x y : ByteArray) (vs : List Value) (d : DataW H) (ds' : List (DataW H)) (q : List MemPlace), args = .agg #[.string x, .string y] :: vs ∧ ds = d :: ds' ∧ True ∧ Lift.Given enc Try.prog ts W base vs ds' q := by
  obtain ⟨v, vs, d, ds', p, q, rfl, rfl, rfl, h0, hok, _, hw, hg⟩ := h.cons
  obtain ⟨fuel, h0⟩ := h0
  obtain ⟨cs, rfl, hsz⟩ := okWide_arr Try.underlying41 hok
  have h1 : DataW.trod enc Try.prog W 0 (fun _ => true) true fuel 41 cs.toList = some (d, p) := by simpa [Value.cells] using h0
  obtain ⟨xs, m, _, _, hlen, hxl, hel⟩ := DataW.trod_array Try.underlying41 h1
  rw [cells_s2] at hlen
  rw [cells_str] at hel
  generalize hcs : cs.toList = C at *
  match C, hlen, xs, hxl with
  | [v0, v1], _, [y0, y1], _ =>
    have f0 := hel 0 (by decide)
    have f1 := hel 1 (by decide)
    simp only [List.getElem?_cons_zero, List.getElem?_cons_succ] at f0 f1
    obtain ⟨a0, e0, _, _⟩ := DataW.trod_string Try.underlying9 f0
    obtain ⟨a1, e1, _, _⟩ := DataW.trod_string Try.underlying9 f1
    simp only [Nat.zero_mul, Nat.one_mul, List.drop_zero, List.take_succ_cons, List.take_zero, List.drop_succ_cons] at e0 e1
    refine ⟨a0, a1, vs, d, ds', q, ?_, rfl, trivial, hg⟩
    have e2 : cs = #[.string a0, .string a1] := by
      apply Array.toList_inj.1
      rw [hcs]
      injection e0 with e0
      injection e1 with e1
      rw [e0, e1]
    rw [e2]
end
end Go.Proofs.Ytikfjimdkbmjhaa
