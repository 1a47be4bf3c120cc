/-
  Slices of items: how they lie, and an argument that is one.
  No condition but the form's own.
-/
import Derived.Test.YtcofjaeljglodaaLayOpen
import Derived.Lib.Bytealg
import Derived.KernelRfl
namespace Go.Proofs.Ytcofjaeljglodaa
open Go.ChangeShapes Go.WideShapes Go.Deep Go.RowKit

namespace Itm
/-- An item: its kind, its number, its text. -/
structure It where
  k : Int
  n : Int
  s : ByteArray
def emp : ByteArray := ⟨#[]⟩
end Itm
theorem info_item : (Try.prog.info? 57).map (fun i => (i.zero, i.size, i.bytes)) = some (some (Value.agg #[.int .i64 0, .int .i64 0, .string ⟨#[]⟩]), 3, 32) := by kernel_rfl
def itemLay : Lay Try.prog Itm.It where
  t := 38
  e := 57
  k := 3
  bytes := 32
  z := .agg #[.int .i64 0, .int .i64 0, .string ⟨#[]⟩]
  f := fun x => [.int .i64 x.k, .int .i64 x.n, .string x.s]
  len := fun _ => rfl
  one := fun x u hu => by
    simp only [List.mem_cons, List.not_mem_nil, or_false] at hu
    rcases hu with rfl | rfl | rfl <;> rfl
  und := Try.underlying38
  info := info_item
  zs := rfl
  pos := by decide
  small := by decide
/-- The three cells of item i behind an address. -/
theorem at_item {w : World} {b o i : Nat} {x : Itm.It} (h : itemLay.At w b o i x) : w.cell? ⟨b, o + i * 3, none⟩ = some (.int .i64 x.k) ∧ w.cell? ⟨b, o + i * 3 + 1, none⟩ = some (.int .i64 x.n) ∧ w.cell? ⟨b, o + i * 3 + 2, none⟩ = some (.string x.s) :=
  ⟨h 0 _ rfl, h 1 _ rfl, h 2 _ rfl⟩
theorem flat_item1 (k n : Int) (s : ByteArray) : #[Value.int .i64 k, .int .i64 n, .string s] = (itemLay.flat [⟨k, n, s⟩]).toArray := rfl
theorem flat_item2 (k n k' n' : Int) (s s' : ByteArray) : #[Value.int .i64 k, .int .i64 n, .string s, .int .i64 k', .int .i64 n', .string s'] = (itemLay.flat [⟨k, n, s⟩, ⟨k', n', s'⟩]).toArray := rfl

section
variable {H : Type} {enc : TypeId × Value → H} {W : World} {base : Nat}
theorem cells_item : Try.prog.cellsOf 57 = 3 := by kernel_rfl
theorem bytes_item : Try.prog.bytesOf 57 = 32 := by kernel_rfl
def GoodItem (it : Itm.It) (d : DataW H) : Prop := (Lit.int .i64 it.k).wf = true ∧ (Lit.int .i64 it.n).wf = true ∧ d = .agg [.lit (.int .i64 it.k), .lit (.int .i64 it.n), .lit (.string it.s.data.toList)]
theorem opens_item : Opens enc itemLay GoodItem := fun W n cs x ht => by
  obtain ⟨ys, m, _, hx, hlen, hyl, hf⟩ := DataW.trod_struct Try.underlying57 ht
  have hlen : cs.length = Try.prog.cellsOf 57 := hlen
  rw [cells_item] at hlen
  match cs, hlen, ys, hyl with
  | [v0, v1, v2], _, [y0, y1, y2], _ =>
    have f0 := hf 0 _ rfl
    have f1 := hf 1 _ rfl
    have f2 := hf 2 _ rfl
    simp only [List.getElem?_cons_zero, List.getElem?_cons_succ] at f0 f1 f2
    obtain ⟨k, e0, g0, w0⟩ := DataW.trod_int Try.underlying3 f0
    obtain ⟨q, e1, g1, w1⟩ := DataW.trod_int Try.underlying3 f1
    obtain ⟨s, e2, g2, w2⟩ := DataW.trod_string Try.underlying9 f2
    cases e0; cases e1; cases e2
    subst g0 g1 g2
    exact ⟨⟨k, q, s⟩, rfl, w0, w1, by rw [hx]; rfl⟩
theorem reach_text {k n : Int} {s : ByteArray} (h : ((DataW.agg [.lit (.int .i64 k), .lit (.int .i64 n), .lit (.string s.data.toList)] : DataW H).weights Try.prog 57).all (· ≤ reachBytes) = true) : s.size ≤ reachBytes := by
  have hs : s.data.toList.length ∈ (DataW.agg [.lit (.int .i64 k), .lit (.int .i64 n), .lit (.string s.data.toList)] : DataW H).weights Try.prog 57 := by
    unfold DataW.weights
    rw [Try.underlying57]
    simp [DataW.weightsEach, DataW.weights]
  have := of_decide_eq_true (List.all_eq_true.1 h _ hs)
  rwa [Array.length_toList] at this

theorem Lift.Given.items {ts : List TypeId} {args : List Value} {ds : List (DataW H)} {before : List MemPlace} (h : Lift.Given enc Try.prog (38 :: ts) W base args ds before) :
    ∃ (A : Option Addr) (c : Nat) (l : List Itm.It) (vs : List Value) (d : DataW H) (ds' : List (DataW H)) (q : List MemPlace), args = .slice A l.length c :: vs ∧ ds = d :: ds' ∧ itemLay.Reads W W.heap.size A l ∧ (A = none → l = []) ∧
      (∀ x ∈ l, (Lit.int .i64 x.k).wf = true ∧ (Lit.int .i64 x.n).wf = true ∧ x.s.size ≤ reachBytes ∧ x.s.size ≤ Rows.uptoBulk d) ∧ l.length * 32 ≤ reachBytes ∧ l.length ≤ Rows.uptoBulk d ∧ l.length ≤ c ∧ Lift.Given enc Try.prog ts W base vs ds' q := by
  obtain ⟨A, c, l, vs, d, ds', q, h1, h2, h3, h4, h5, h6⟩ := h.things (L := itemLay) opens_item cells_item bytes_item
  refine ⟨A, c, l, vs, d, ds', q, h1, h2, h3, h4, fun x hx => ?_, h6⟩
  obtain ⟨dx, ⟨g1, g2, g3⟩, g4, g5⟩ := h5 x hx
  rw [g3] at g4 g5
  refine ⟨g1, g2, reach_text g4, Nat.le_trans ?_ g5⟩
  simp only [Rows.uptoBulk, Rows.uptoBulkAll, Array.length_toList]
  show x.s.data.size ≤ _
  omega
end
end Go.Proofs.Ytcofjaeljglodaa
