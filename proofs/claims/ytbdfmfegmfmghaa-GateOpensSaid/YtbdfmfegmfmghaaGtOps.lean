/-
  How the calls of a row lie: whether it drops, and a request; loads of either; an argument that is a slice of them.
  No condition but the form's own.
-/
import Derived.Test.YtbdfmfegmfmghaaRfLay
set_option linter.unusedSimpArgs false
set_option linter.unusedVariables false
namespace Go.Proofs.Ytbdfmfegmfmghaa
open Go.ChangeShapes Go.WideShapes Go.Deep Go.RowKit

/-- A call of a row. -/
structure GOp where
  d : Bool
  x : Rf
def gopL (o : GOp) : List Value := [.bool o.d, .int .i64 o.x.c, .int .i64 o.x.e, .int .i64 o.x.r]
theorem info_gop : (Try.prog.info? 36).map (fun i => (i.zero, i.size, i.bytes)) = some (some (Value.agg #[.bool false, .int .i64 0, .int .i64 0, .int .i64 0]), 4, 32) := by kernel_rfl
def gopLay : Lay Try.prog GOp where
  t := 34
  e := 36
  k := 4
  bytes := 32
  z := .agg #[.bool false, .int .i64 0, .int .i64 0, .int .i64 0]
  f := gopL
  len := fun _ => rfl
  one := fun x u hu => by
    unfold gopL at hu
    simp only [List.mem_cons, List.not_mem_nil, or_false] at hu
    rcases hu with rfl | rfl | rfl | rfl <;> rfl
  und := Try.underlying34
  info := info_gop
  zs := rfl
  pos := by decide
  small := by decide
section
variable {w : World} {o : Oper} {a : Act}
theorem exec_lod {b off : Nat} {d : Bool} {x : Rf} (p : Operand) (ho : o.op = .load 4 p) (hx : a.eval p = .pointer (some ⟨b, off, none⟩)) (hc : ∀ j v, (gopL ⟨d, x⟩)[j]? = some v → w.cell? ⟨b, off + j, none⟩ = some v) :
    (execOp a.eval o).run Try.prog w = .ok (.value (.bool d)) w :=
  exec_cell p ho hx (hc 0 _ rfl) Try.underlying4 rfl
theorem exec_lor {b off : Nat} {d : Bool} {x : Rf} (p : Operand) (ho : o.op = .load 24 p) (hx : a.eval p = .pointer (some ⟨b, off + 1, none⟩)) (hc : ∀ j v, (gopL ⟨d, x⟩)[j]? = some v → w.cell? ⟨b, off + j, none⟩ = some v) :
    (execOp a.eval o).run Try.prog w = .ok (.value (.agg #[.int .i64 x.c, .int .i64 x.e, .int .i64 x.r])) w :=
  exec_lr (x := x) p ho hx fun j v hj => by
    rw [Nat.add_assoc, Nat.add_comm 1 j]
    exact hc (j + 1) v hj
end
section
variable {H : Type} {enc : TypeId × Value → H} {W : World} {base : Nat}
theorem cells_gop : Try.prog.cellsOf 36 = 4 := by kernel_rfl
theorem bytes_gop : Try.prog.bytesOf 36 = 32 := by kernel_rfl
theorem opens_gop : Opens enc gopLay (fun _ _ => True) := fun W n cs x ht => by
  obtain ⟨ys, m, _, hx, hlen, hyl, hf⟩ := DataW.trod_struct Try.underlying36 ht
  have hlen : cs.length = Try.prog.cellsOf 36 := hlen
  rw [cells_gop] at hlen
  match cs, hlen, ys, hyl with
  | [v0, v1, v2, v3], _, [y0, y1], _ =>
    have f0 := hf 0 _ rfl
    have f1 := hf 1 _ rfl
    simp only [List.getElem?_cons_zero, List.getElem?_cons_succ] at f0 f1
    obtain ⟨a0, e0, _⟩ := DataW.trod_bool Try.underlying4 f0
    obtain ⟨a1, e1, _⟩ := opens_rf (enc := enc) W _ _ _ f1
    cases e0
    cases e1
    exact ⟨⟨a0, a1⟩, rfl, trivial⟩
theorem Lift.Given.gops {ts : List TypeId} {args : List Value} {ds : List (DataW H)} {before : List MemPlace} (h : Lift.Given enc Try.prog (34 :: ts) W base args ds before) :
    ∃ (A : Option Addr) (c : Nat) (l : List GOp) (vs : List Value) (d : DataW H) (ds' : List (DataW H)) (q : List MemPlace), args = .slice A l.length c :: vs ∧ ds = d :: ds' ∧ Sls gopLay (fun _ => True) W A l.length c l ∧ Lift.Given enc Try.prog ts W base vs ds' q := by
  obtain ⟨A, c, l, vs, d, ds', q, h1, h2, h3, h4, h5, h6, _, h8, h9⟩ := h.things (L := gopLay) opens_gop cells_gop bytes_gop
  have hb : l.length * 32 ≤ reachBytes := h6
  refine ⟨A, c, l, vs, d, ds', q, h1, h2, ⟨rfl, h8, h3, h4, fun x hx => trivial, ?_⟩, h9⟩
  have : reachBytes = 140737488351232 := rfl
  show l.length * 32 ≤ _
  omega
end
end Go.Proofs.Ytbdfmfegmfmghaa
