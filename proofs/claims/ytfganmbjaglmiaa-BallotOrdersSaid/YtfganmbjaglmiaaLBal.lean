/-
  Arguments that are ballots, votes, slices of promises.
  No condition but the form's own.
-/
import Derived.Test.YtfganmbjaglmiaaBalPm
import Derived.OpenShut
import Derived.KernelRfl
set_option linter.unusedSimpArgs false
set_option linter.unusedVariables false
set_option maxRecDepth 100000
namespace Go.Proofs.Ytfganmbjaglmiaa
open Go.ChangeShapes Go.WideShapes Go.Deep Go.RowKit

section
variable {H : Type} {enc : TypeId × Value → H} {W : World} {base : Nat}
theorem cells_bl : Try.prog.cellsOf 23 = 2 := by kernel_rfl
theorem cells_vo : Try.prog.cellsOf 29 = 5 := by kernel_rfl
theorem cells_pm : Try.prog.cellsOf 50 = 3 := by kernel_rfl
theorem bytes_pm : Try.prog.bytesOf 50 = 32 := by kernel_rfl
theorem opens_bl : OpensT enc 23 (fun b : Bal => [.int .i64 b.r, .int .i64 b.s]) (fun b => (Lit.int .i64 b.r).wf = true) := fun W n cs x ht => by
  obtain ⟨ys, m, _, hx, hlen, hyl, hf⟩ := DataW.trod_struct Try.underlying23 ht
  have hlen : cs.length = Try.prog.cellsOf 23 := hlen
  rw [cells_bl] at hlen
  match cs, hlen, ys, hyl with
  | [v0, v1], _, [y0, y1], _ =>
    have f0 := hf 0 _ rfl
    have f1 := hf 1 _ rfl
    simp only [List.getElem?_cons_zero, List.getElem?_cons_succ] at f0 f1
    obtain ⟨a0, e0, _, w0⟩ := DataW.trod_int Try.underlying3 f0
    obtain ⟨a1, e1, _, _⟩ := DataW.trod_int Try.underlying3 f1
    cases e0; cases e1
    exact ⟨⟨a0, a1⟩, rfl, w0⟩
theorem opens_vo : OpensT enc 29 (fun x : Bvo => (voA x).toList) (fun _ => True) := fun W n cs x ht => by
  obtain ⟨ys, m, _, hx, hlen, hyl, hf⟩ := DataW.trod_struct Try.underlying29 ht
  have hlen : cs.length = Try.prog.cellsOf 29 := hlen
  rw [cells_vo] at hlen
  match cs, hlen, ys, hyl with
  | [v0, v1, v2, v3, v4], _, [y0, y1, y2], _ =>
    have f0 := hf 0 _ rfl
    have f1 := hf 1 _ rfl
    have f2 := hf 2 _ rfl
    simp only [List.getElem?_cons_zero, List.getElem?_cons_succ] at f0 f1 f2
    obtain ⟨a0, e0, _⟩ := opens_bl (enc := enc) W _ _ _ f0
    obtain ⟨a1, e1, _⟩ := opens_bl (enc := enc) W _ _ _ f1
    obtain ⟨a2, e2, _, _⟩ := DataW.trod_string Try.underlying9 f2
    cases e0; cases e1; cases e2
    exact ⟨⟨a0, a1, a2⟩, rfl, trivial⟩
theorem opens_pm : Opens enc pmLay (fun x d => ∃ y, d = .agg [y, .lit (.string x.v.data.toList)]) := fun W n cs x ht => by
  obtain ⟨ys, m, _, hx, hlen, hyl, hf⟩ := DataW.trod_struct Try.underlying50 ht
  have hlen : cs.length = Try.prog.cellsOf 50 := hlen
  rw [cells_pm] at hlen
  match cs, hlen, ys, hyl with
  | [v0, v1, v2], _, [y0, y1], _ =>
    have f0 := hf 0 _ rfl
    have f1 := hf 1 _ rfl
    simp only [List.getElem?_cons_zero, List.getElem?_cons_succ] at f0 f1
    obtain ⟨a0, e0, _⟩ := opens_bl (enc := enc) W _ _ _ f0
    obtain ⟨a1, e1, g1, _⟩ := DataW.trod_string Try.underlying9 f1
    cases e0; cases e1
    subst g1
    exact ⟨⟨a0, a1⟩, rfl, y0.1, by rw [hx]; rfl⟩
theorem pm_reach {x : Bpm} {y : DataW H} (h : ((.agg [y, .lit (.string x.v.data.toList)] : DataW H).weights Try.prog 50).all (· ≤ reachBytes) = true) : pmF x := by
  have hs : x.v.data.toList.length ∈ (.agg [y, .lit (.string x.v.data.toList)] : DataW H).weights Try.prog 50 := by
    simp [DataW.weights, DataW.weightsEach, Try.underlying50]
  have := of_decide_eq_true (List.all_eq_true.1 h _ hs)
  rwa [Array.length_toList] at this
theorem Lift.Given.bal {ts : List TypeId} {args : List Value} {ds : List (DataW H)} {before : List MemPlace} (h : Lift.Given enc Try.prog (23 :: ts) W base args ds before) :
    ∃ (b : Bal) (vs : List Value) (d : DataW H) (ds' : List (DataW H)) (q : List MemPlace), args = .agg #[.int .i64 b.r, .int .i64 b.s] :: vs ∧ ds = d :: ds' ∧ (Lit.int .i64 b.r).wf = true ∧ Lift.Given enc Try.prog ts W base vs ds' q := h.one opens_bl Try.underlying23
theorem Lift.Given.vote {ts : List TypeId} {args : List Value} {ds : List (DataW H)} {before : List MemPlace} (h : Lift.Given enc Try.prog (29 :: ts) W base args ds before) :
    ∃ (x : Bvo) (vs : List Value) (d : DataW H) (ds' : List (DataW H)) (q : List MemPlace), args = .agg #[.int .i64 x.p.r, .int .i64 x.p.s, .int .i64 x.a.r, .int .i64 x.a.s, .string x.v] :: vs ∧ ds = d :: ds' ∧ True ∧ Lift.Given enc Try.prog ts W base vs ds' q := h.one opens_vo Try.underlying29
theorem Lift.Given.proms {ts : List TypeId} {args : List Value} {ds : List (DataW H)} {before : List MemPlace} (h : Lift.Given enc Try.prog (34 :: ts) W base args ds before) :
    ∃ (A : Option Addr) (c : Nat) (l : List Bpm) (vs : List Value) (d : DataW H) (ds' : List (DataW H)) (q : List MemPlace), args = .slice A l.length c :: vs ∧ ds = d :: ds' ∧ Sls pmLay pmF W A l.length c l ∧ Lift.Given enc Try.prog ts W base vs ds' q := by
  obtain ⟨A, c, l, vs, d, ds', q, h1, h2, h3, h4, h5, h6, _, h8, h9⟩ := h.things (L := pmLay) opens_pm cells_pm bytes_pm
  have hb : l.length * 32 ≤ 140737488351232 := h6
  refine ⟨A, c, l, vs, d, ds', q, h1, h2, ⟨rfl, h8, h3, h4, fun x hx => ?_, by show l.length * 32 ≤ _; omega⟩, h9⟩
  obtain ⟨dx, ⟨y, g⟩, gR, _⟩ := h5 x hx
  subst g
  exact pm_reach gR
end
end Go.Proofs.Ytfganmbjaglmiaa
