/-
  Arguments that are values, commands, events, or a slice of events.
  No condition but the form's own.
-/
import Derived.Test.YtcofjaeljglodaaLayOpen
import Derived.Test.YtcofjaeljglodaaEvLay
import Derived.Test.YtcofjaeljglodaaNumBase
import Derived.KernelRfl
namespace Go.Proofs.Ytcofjaeljglodaa
open Go.ChangeShapes Go.WideShapes Go.Deep Go.RowKit

def evL (e : Cmd.E) : List Value :=
  [.int .i64 e.c, .int .i64 e.e, .int .i64 e.r, .int .i64 e.cmd.k, .string e.cmd.name, .string e.cmd.key, .int .i64 e.cmd.val.k, .int .i64 e.cmd.val.n, .int .u64 (e.cmd.val.f : Int), .string e.cmd.val.s, .int .i64 e.cmd.old.k, .int .i64 e.cmd.old.n, .int .u64 (e.cmd.old.f : Int), .string e.cmd.old.s, .int .i64 e.cmd.n, .int .i64 e.cmd.m]
def cmL (c : Cmd.C) : List Value :=
  [.int .i64 c.k, .string c.name, .string c.key, .int .i64 c.val.k, .int .i64 c.val.n, .int .u64 (c.val.f : Int), .string c.val.s, .int .i64 c.old.k, .int .i64 c.old.n, .int .u64 (c.old.f : Int), .string c.old.s, .int .i64 c.n, .int .i64 c.m]
def vaL (v : Val.V) : List Value := [.int .i64 v.k, .int .i64 v.n, .int .u64 (v.f : Int), .string v.s]
theorem info_evl : (Try.prog.info? 34).map (fun i => (i.zero, i.size, i.bytes)) = some (some (Value.agg #[.int .i64 0, .int .i64 0, .int .i64 0, .int .i64 0, .string ⟨#[]⟩, .string ⟨#[]⟩, .int .i64 0, .int .i64 0, .int .u64 0, .string ⟨#[]⟩, .int .i64 0, .int .i64 0, .int .u64 0, .string ⟨#[]⟩, .int .i64 0, .int .i64 0]), 16, 160) := by kernel_rfl
def evLay : Lay Try.prog Cmd.E where
  t := 44
  e := 34
  k := 16
  bytes := 160
  z := .agg #[.int .i64 0, .int .i64 0, .int .i64 0, .int .i64 0, .string ⟨#[]⟩, .string ⟨#[]⟩, .int .i64 0, .int .i64 0, .int .u64 0, .string ⟨#[]⟩, .int .i64 0, .int .i64 0, .int .u64 0, .string ⟨#[]⟩, .int .i64 0, .int .i64 0]
  f := evL
  len := fun _ => rfl
  one := fun x u hu => by
    unfold evL at hu
    simp only [List.mem_cons, List.not_mem_nil, or_false] at hu
    rcases hu with rfl | rfl | rfl | rfl | rfl | rfl | rfl | rfl | rfl | rfl | rfl | rfl | rfl | rfl | rfl | rfl <;> rfl
  und := Try.underlying44
  info := info_evl
  zs := rfl
  pos := by decide
  small := by decide
theorem evL_A (e : Cmd.E) : (evL e).toArray = evA e := rfl
theorem cmL_A (c : Cmd.C) : (cmL c).toArray = cmA c := rfl
section
variable {H : Type} {enc : TypeId × Value → H} {W : World} {base : Nat} {α : Type}
/-- A thing's cells are read: they are some thing's, and of it this holds. -/
def OpensT (enc : TypeId × Value → H) (e : TypeId) (f : α → List Value) (Good : α → Prop) : Prop :=
  ∀ (W : World) (n : Nat) (cs : List Value) (x : DataW H × List MemPlace), DataW.trod enc Try.prog W 0 (fun _ => true) true n e cs = some x → ∃ it : α, cs = f it ∧ Good it
theorem Lift.Given.one {e : TypeId} {f : α → List Value} {Good : α → Prop} (hop : OpensT enc e f Good) {fs : Array Field} (hs : Try.prog.underlying e = some (.struct fs))
    {ts : List TypeId} {args : List Value} {ds : List (DataW H)} {before : List MemPlace} (h : Lift.Given enc Try.prog (e :: ts) W base args ds before) :
    ∃ (x : α) (vs : List Value) (d : DataW H) (ds' : List (DataW H)) (q : List MemPlace), args = .agg (f x).toArray :: vs ∧ ds = d :: ds' ∧ Good x ∧ Lift.Given enc Try.prog ts W base vs ds' q := by
  obtain ⟨v, vs, d, ds', p, q, rfl, rfl, rfl, h0, hok, _, hw, hg⟩ := h.cons
  obtain ⟨fuel, h0⟩ := h0
  obtain ⟨cs, rfl, hsz⟩ := okWide_struct hs hok
  obtain ⟨it, hit, hgd⟩ := hop W _ _ _ h0
  refine ⟨it, vs, d, ds', q, ?_, rfl, hgd, hg⟩
  have hc : cs.toList = f it := by simpa [Value.cells] using hit
  rw [← hc]
theorem cells_val : Try.prog.cellsOf 24 = 4 := by kernel_rfl
theorem cells_cmd : Try.prog.cellsOf 26 = 13 := by kernel_rfl
theorem cells_ref : Try.prog.cellsOf 32 = 3 := by kernel_rfl
theorem cells_ev : Try.prog.cellsOf 34 = 16 := by kernel_rfl
theorem bytes_ev : Try.prog.bytesOf 34 = 160 := by kernel_rfl
theorem opens_val : OpensT enc 24 vaL (fun v => v.f < 18446744073709551616) := fun W n cs x ht => by
  obtain ⟨ys, m, _, hx, hlen, hyl, hf⟩ := DataW.trod_struct Try.underlying24 ht
  have hlen : cs.length = Try.prog.cellsOf 24 := hlen
  rw [cells_val] at hlen
  match cs, hlen, ys, hyl with
  | [v0, v1, v2, v3], _, [y0, y1, y2, y3], _ =>
    have f0 := hf 0 _ rfl
    have f1 := hf 1 _ rfl
    have f2 := hf 2 _ rfl
    have f3 := hf 3 _ rfl
    simp only [List.getElem?_cons_zero, List.getElem?_cons_succ] at f0 f1 f2 f3
    obtain ⟨a0, e0, _, _⟩ := DataW.trod_int Try.underlying3 f0
    obtain ⟨a1, e1, _, _⟩ := DataW.trod_int Try.underlying3 f1
    obtain ⟨a2, e2, _, w2⟩ := DataW.trod_int Try.underlying22 f2
    obtain ⟨a3, e3, _, _⟩ := DataW.trod_string Try.underlying9 f3
    cases e0; cases e1; cases e2; cases e3
    obtain ⟨u, rfl, hu⟩ := u64_lt w2
    exact ⟨⟨a0, a1, u, a3⟩, rfl, hu⟩
theorem opens_cmd : OpensT enc 26 cmL (fun c => c.val.f < 18446744073709551616 ∧ c.old.f < 18446744073709551616) := fun W n cs x ht => by
  obtain ⟨ys, m, _, hx, hlen, hyl, hf⟩ := DataW.trod_struct Try.underlying26 ht
  have hlen : cs.length = Try.prog.cellsOf 26 := hlen
  rw [cells_cmd] at hlen
  match cs, hlen, ys, hyl with
  | [v0, v1, v2, v3, v4, v5, v6, v7, v8, v9, v10, v11, v12], _, [y0, y1, y2, y3, y4, y5, y6], _ =>
    have f0 := hf 0 _ rfl
    have f1 := hf 1 _ rfl
    have f2 := hf 2 _ rfl
    have f3 := hf 3 _ rfl
    have f4 := hf 4 _ rfl
    have f5 := hf 5 _ rfl
    have f6 := hf 6 _ rfl
    simp only [List.getElem?_cons_zero, List.getElem?_cons_succ] at f0 f1 f2 f3 f4 f5 f6
    obtain ⟨a0, e0, _, _⟩ := DataW.trod_int Try.underlying3 f0
    obtain ⟨a1, e1, _, _⟩ := DataW.trod_string Try.underlying9 f1
    obtain ⟨a2, e2, _, _⟩ := DataW.trod_string Try.underlying9 f2
    obtain ⟨a3, e3, w3⟩ := opens_val (enc := enc) W _ _ _ f3
    obtain ⟨a4, e4, w4⟩ := opens_val (enc := enc) W _ _ _ f4
    obtain ⟨a5, e5, _, _⟩ := DataW.trod_int Try.underlying3 f5
    obtain ⟨a6, e6, _, _⟩ := DataW.trod_int Try.underlying3 f6
    cases e0; cases e1; cases e2; cases e3; cases e4; cases e5; cases e6
    exact ⟨⟨a0, a1, a2, a3, a4, a5, a6⟩, rfl, w3, w4⟩
theorem opens_ref : OpensT enc 32 (fun r : Int × Int × Int => [.int .i64 r.1, .int .i64 r.2.1, .int .i64 r.2.2]) (fun _ => True) := fun W n cs x ht => by
  obtain ⟨ys, m, _, hx, hlen, hyl, hf⟩ := DataW.trod_struct Try.underlying32 ht
  have hlen : cs.length = Try.prog.cellsOf 32 := hlen
  rw [cells_ref] at hlen
  match cs, hlen, ys, hyl with
  | [v0, v1, v2], _, [y0, y1, y2], _ =>
    have f0 := hf 0 _ rfl
    have f1 := hf 1 _ rfl
    have f2 := hf 2 _ rfl
    simp only [List.getElem?_cons_zero, List.getElem?_cons_succ] at f0 f1 f2
    obtain ⟨a0, e0, _, _⟩ := DataW.trod_int Try.underlying3 f0
    obtain ⟨a1, e1, _, _⟩ := DataW.trod_int Try.underlying3 f1
    obtain ⟨a2, e2, _, _⟩ := DataW.trod_int Try.underlying3 f2
    cases e0; cases e1; cases e2
    exact ⟨(a0, a1, a2), rfl, trivial⟩
theorem opens_evt : OpensT enc 34 evL (fun e => e.cmd.val.f < 18446744073709551616 ∧ e.cmd.old.f < 18446744073709551616) := fun W n cs x ht => by
  obtain ⟨ys, m, _, hx, hlen, hyl, hf⟩ := DataW.trod_struct Try.underlying34 ht
  have hlen : cs.length = Try.prog.cellsOf 34 := hlen
  rw [cells_ev] at hlen
  match cs, hlen, ys, hyl with
  | [v0, v1, v2, v3, v4, v5, v6, v7, v8, v9, v10, v11, v12, v13, v14, v15], _, [y0, y1], _ =>
    have f0 := hf 0 _ rfl
    have f1 := hf 1 _ rfl
    simp only [List.getElem?_cons_zero, List.getElem?_cons_succ] at f0 f1
    obtain ⟨⟨a0, a1, a2⟩, e0, _⟩ := opens_ref (enc := enc) W _ _ _ f0
    obtain ⟨a3, e1, w3⟩ := opens_cmd (enc := enc) W _ _ _ f1
    cases e0; cases e1
    exact ⟨⟨a0, a1, a2, a3⟩, rfl, w3⟩
theorem opens_ev : Opens enc evLay (fun e _ => e.cmd.val.f < 18446744073709551616 ∧ e.cmd.old.f < 18446744073709551616) := fun W n cs x ht => opens_evt W n cs x ht
theorem Lift.Given.val {ts : List TypeId} {args : List Value} {ds : List (DataW H)} {before : List MemPlace} (h : Lift.Given enc Try.prog (24 :: ts) W base args ds before) :
    ∃ (x : Val.V) (vs : List Value) (d : DataW H) (ds' : List (DataW H)) (q : List MemPlace), args = .agg (vaL x).toArray :: vs ∧ ds = d :: ds' ∧ x.f < 18446744073709551616 ∧ Lift.Given enc Try.prog ts W base vs ds' q := h.one opens_val Try.underlying24
theorem Lift.Given.cmd {ts : List TypeId} {args : List Value} {ds : List (DataW H)} {before : List MemPlace} (h : Lift.Given enc Try.prog (26 :: ts) W base args ds before) :
    ∃ (x : Cmd.C) (vs : List Value) (d : DataW H) (ds' : List (DataW H)) (q : List MemPlace), args = .agg (cmL x).toArray :: vs ∧ ds = d :: ds' ∧ (x.val.f < 18446744073709551616 ∧ x.old.f < 18446744073709551616) ∧ Lift.Given enc Try.prog ts W base vs ds' q := h.one opens_cmd Try.underlying26
theorem Lift.Given.ev {ts : List TypeId} {args : List Value} {ds : List (DataW H)} {before : List MemPlace} (h : Lift.Given enc Try.prog (34 :: ts) W base args ds before) :
    ∃ (x : Cmd.E) (vs : List Value) (d : DataW H) (ds' : List (DataW H)) (q : List MemPlace), args = .agg (evL x).toArray :: vs ∧ ds = d :: ds' ∧ (x.cmd.val.f < 18446744073709551616 ∧ x.cmd.old.f < 18446744073709551616) ∧ Lift.Given enc Try.prog ts W base vs ds' q := h.one opens_evt Try.underlying34
theorem Lift.Given.evs {ts : List TypeId} {args : List Value} {ds : List (DataW H)} {before : List MemPlace} (h : Lift.Given enc Try.prog (44 :: ts) W base args ds before) :
    ∃ (A : Option Addr) (c : Nat) (l : List Cmd.E) (vs : List Value) (d : DataW H) (ds' : List (DataW H)) (q : List MemPlace), args = .slice A l.length c :: vs ∧ ds = d :: ds' ∧ evLay.Reads W W.heap.size A l ∧ (A = none → l = []) ∧
      (∀ x ∈ l, x.cmd.val.f < 18446744073709551616 ∧ x.cmd.old.f < 18446744073709551616) ∧ l.length ≤ Rows.uptoBulk d ∧ l.length ≤ c ∧ Lift.Given enc Try.prog ts W base vs ds' q := by
  obtain ⟨A, c, l, vs, d, ds', q, h1, h2, h3, h4, h5, _, h6⟩ := h.things (L := evLay) opens_ev cells_ev bytes_ev
  refine ⟨A, c, l, vs, d, ds', q, h1, h2, h3, h4, fun x hx => ?_, h6⟩
  obtain ⟨dx, g, _⟩ := h5 x hx
  exact g
end
end Go.Proofs.Ytcofjaeljglodaa
