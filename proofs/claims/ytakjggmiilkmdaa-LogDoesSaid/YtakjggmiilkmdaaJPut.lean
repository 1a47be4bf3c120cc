/-
  Operations on numbers and cells, each by its result; ways out.
  No condition but those named.
  A thing of a row that is known is another one: its cells are stored at its place.
  Pure of the program. No condition but those named.
-/
import Derived.Test.YtakjggmiilkmdaaRows
import Derived.Test.YtakjggmiilkmdaaKn
import Derived.Test.YtakjggmiilkmdaaLayOpen
import Derived.Deep.RegionWith
import Derived.Deep.RegionHeld3
import Derived.Deep.Draws
import Derived.Lib.Hide
import Derived.Deep.MidRow
set_option linter.unusedSimpArgs false
set_option linter.unusedVariables false
namespace Go.Proofs.Ytakjggmiilkmdaa
open Go.RowKit

def IsB (b : Bool) (w : World) (e : Ending) (w' : World) : Prop := e = .returned (.bool b) ∧ Below w.heap.size w w'
section
variable {w : World} {ops : Array Oper} {rest : List Oper} {o : Oper} {a : Act} {Q : Exit → Act → World → Prop}
theorem exec_sub1 {j : Nat} (p : Operand) (ho : o.op = .binOp .sub 3 p (.const (.int .i64 1)) 3) (hp : a.eval p = .int .i64 ((j + 1 : Nat) : Int)) (h : j < 9223372036854775807) :
    (execOp a.eval o).run Try.prog w = .ok (.value (.int .i64 (j : Int))) w := by
  have hw : IntKind.i64.wrap (j : Int) = (j : Int) := by rw [IntKind.wrap_i64]; omega
  have he : a.eval (.const (.int .i64 1)) = .int .i64 1 := rfl
  unfold execOp
  simp only [ho, hp, he]
  go_simp
theorem exec_add1 {j : Nat} (p : Operand) (ho : o.op = .binOp .add 3 p (.const (.int .i64 1)) 3) (hp : a.eval p = .int .i64 (j : Int)) (h : j < 9223372036854775807) :
    (execOp a.eval o).run Try.prog w = .ok (.value (.int .i64 ((j + 1 : Nat) : Int))) w := by
  have hw : IntKind.i64.wrap ((j : Int) + 1) = (j : Int) + 1 := by rw [IntKind.wrap_i64]; omega
  have he : a.eval (.const (.int .i64 1)) = .int .i64 1 := rfl
  unfold execOp
  simp only [ho, hp, he]
  go_simp
theorem exec_cell {ad : Addr} {v : Value} {ty : TypeId} {d : TypeDesc} (p : Operand) (ho : o.op = .load ty p) (hx : a.eval p = .pointer (some ad)) (hc : w.cell? ad = some v) (hu : Try.prog.underlying ty = some d) (hd : d.isRow = false) :
    (execOp a.eval o).run Try.prog w = .ok (.value v) w := by
  have hagg : (isAgg ty).run Try.prog w = .ok false w := by
    unfold isAgg
    rw [Sem.run_bind, run_underlying hu w]
    cases d <;> simp_all
  have h : (loadVar ty ad).run Try.prog w = .ok v w := by
    simp [loadVar, Sem.run_bind, hagg, hc]
  unfold execOp
  simp only [ho, hx, Instr.loadAt, Instr.sureAddr, Sem.run_bind, Sem.run_pure, Result.andThen_ok, h]
theorem wpList_exe {P : Program} {w : World} {v : Value} (hr : (execOp a.eval o).run P w = .ok (.value v) w) (hw : Region.wanted o (yielded ops a.tmps) = true) (h : wpList P ops Q rest (a.put o.dst v) w) : wpList P ops Q (o :: rest) a w :=
  wpList_of_exec hw hr h
theorem exec_gt {x k : Int} {b : Bool} (p : Operand) (ho : o.op = .binOp .gtr 3 p (.const (.int .i64 k)) 3) (hp : a.eval p = .int .i64 x) (hb : decide (k < x) = b) :
    (execOp a.eval o).run Try.prog w = .ok (.value (.bool b)) w := by
  have he : a.eval (.const (.int .i64 k)) = .int .i64 k := rfl
  subst hb
  unfold execOp
  simp only [ho, hp, he]
  go_simp
end
theorem ret_t2 {fn : Func} {R : Ending → World → Prop} {a : Act} {w : World} {u z : Value} {q q2 : Tmp} (hf : fn.results = #[.tmp q, .tmp q2]) (h3 : a.tmps[q]? = some u) (h4 : a.tmps[q2]? = some z) (hd : a.defers = [])
    (hR : R (.returned (.tuple #[u, z])) w) : bodyPost Try.prog fn R Exit.ret a w := by
  refine bodyPost_ret (v := .tuple #[u, z]) ?_ hd hR
  simp [results, hf, Sem.run_bind, h3, h4]
theorem ret_t3 {fn : Func} {R : Ending → World → Prop} {a : Act} {w : World} {u z y : Value} {q q2 q3 : Tmp} (hf : fn.results = #[.tmp q, .tmp q2, .tmp q3]) (h3 : a.tmps[q]? = some u) (h4 : a.tmps[q2]? = some z) (h5 : a.tmps[q3]? = some y) (hd : a.defers = [])
    (hR : R (.returned (.tuple #[u, z, y])) w) : bodyPost Try.prog fn R Exit.ret a w := by
  refine bodyPost_ret (v := .tuple #[u, z, y]) ?_ hd hR
  simp [results, hf, Sem.run_bind, h3, h4, h5]
/-- What is stepped over in a region that draws. -/
theorem step_of_exec {P : Program} {ops : Array Oper} {o : Oper} {a : Act} {w : World} {K : Act → World → Prop} {Q : Exit → Act → World → Prop} {E : Prop} {v : Value} (hw : Region.wanted o (yielded ops a.tmps) = true) (hr : (execOp a.eval o).run P w = .ok (.value v) w) (h : K (a.put o.dst v) w) :
    if Region.wanted o (yielded ops a.tmps) = true then Oper.wp P o a w K Q else E := by
  rw [if_pos hw]
  unfold Oper.wp
  rw [hr, Oper.upon_value]
  exact h
end Go.Proofs.Ytakjggmiilkmdaa
set_option linter.unusedSimpArgs false
set_option linter.unusedVariables false
namespace Go.Proofs.Ytakjggmiilkmdaa
open Go.RowKit

section
variable {P : Program} {b0 : Nat} {w0 w : World} {L : List (Nat × TypeId × Array Value)} {R : List RowE} {ops : Array Oper} {rest : List Oper} {o : Oper} {a : Act} {Q : Exit → Act → World → Prop} {α : Type} {La : Lay P α}
theorem Lay.flat_set (l : List α) (i : Nat) (y : α) (hi : i < l.length) : La.flat (l.set i y) = (La.flat l).take (i * La.k) ++ La.f y ++ (La.flat l).drop (i * La.k + La.k) := by
  induction l generalizing i with
  | nil => simp at hi
  | cons x r ih =>
    have hx := La.len x
    match i, hi with
    | 0, _ =>
      rw [List.set_cons_zero, Lay.flat_cons, Lay.flat_cons, Nat.zero_mul, List.take_zero, List.nil_append, Nat.zero_add, List.drop_left' hx]
    | i + 1, hi =>
      have hi' : i < r.length := by simpa using hi
      have e : (i + 1) * La.k = La.k + i * La.k := by rw [Nat.succ_mul, Nat.add_comm]
      have e1 : (La.f x ++ La.flat r).take (La.k + i * La.k) = La.f x ++ (La.flat r).take (i * La.k) := by
        rw [List.take_append, List.take_of_length_le (by omega), hx, Nat.add_sub_cancel_left]
      have e2 : (La.f x ++ La.flat r).drop (La.k + i * La.k + La.k) = (La.flat r).drop (i * La.k + La.k) := by
        rw [List.drop_append, List.drop_of_length_le (by omega), hx, List.nil_append]
        congr 1
        omega
      rw [List.set_cons_succ, Lay.flat_cons, Lay.flat_cons, ih i hi', e, e1, e2]
      simp only [List.append_assoc]
theorem take_put {β : Type} (T V : List β) (p k m : Nat) (hV : V.length = k) (h1 : p + k ≤ m) (h2 : m ≤ T.length) : (T.take p ++ V ++ T.drop (p + k)).take m = (T.take m).take p ++ V ++ (T.take m).drop (p + k) := by
  have l1 : (T.take p).length = p := by rw [List.length_take]; omega
  rw [List.append_assoc, List.take_append, l1, List.take_of_length_le (i := m) (l := T.take p) (by rw [l1]; omega), List.take_append, hV, List.take_of_length_le (i := m - p) (l := V) (by omega), List.take_take, Nat.min_eq_left (by omega), List.drop_take, List.append_assoc, show m - p - k = m - (p + k) by omega]
theorem putCells_size : ∀ (vs : List Value) (cs : Array Value) (p : Nat), (putCells cs p vs).size = cs.size
  | [], _, _ => rfl
  | v :: r, cs, p => by
    rw [putCells, putCells_size r, Array.size_setIfInBounds]
theorem far_setCells {g k : Nat} (hne : k ≠ g) : ∀ (vs : List Value) (p : Nat) (w : World), (w.setCells g p vs).heap[k]? = w.heap[k]?
  | [], _, _ => rfl
  | v :: r, p, w => (far_setCells hne r (p + 1) (w.setCell ⟨g, p, none⟩ v)).trans (Below.heap_setCell w _ v k hne)
/-- Where a row that is not empty begins. -/
theorem Kn.headR (h : Kn b0 w0 w L R) {j n c : Nat} {A : Option Addr} {l : List α} (hR : R[j]? = some (row La (.slice A n c) l)) (hl : 0 < l.length) : ∃ g, A = some ⟨g, 0, none⟩ := by
  rcases (h.own j hR).2 with ⟨_, h0⟩ | ⟨g, cap, cur, h1, _⟩
  · omega
  · injection h1 with h1
    exact ⟨g, h1⟩
theorem Kn.putR (h : Kn b0 w0 w L R) {j g n c : Nat} {l : List α} (hR : R[j]? = some (row La (.slice (some ⟨g, 0, none⟩) n c) l)) (i : Nat) (hi : i < l.length) (y : α) :
    Kn b0 w0 (w.setCells g (i * La.k) (La.f y)) L (R.set j (row La (.slice (some ⟨g, 0, none⟩) n c) (l.set i y))) := by
  have hown := h.own j hR
  have hik : i * La.k + La.k ≤ l.length * La.k := by
    have h1 : (i + 1) * La.k ≤ l.length * La.k := Nat.mul_le_mul_right _ hi
    rwa [Nat.succ_mul] at h1
  have ho : (w.setCells g (i * La.k) (La.f y)).ownsRow b0 La.e La.k (.slice (some ⟨g, 0, none⟩) n c) (l.set i y).length (La.flat (l.set i y)) := by
    refine ⟨by rw [La.flat_length], ?_⟩
    rw [List.length_set]
    rcases hown.2 with ⟨h1, _⟩ | ⟨g', cap, cur, h1, hb, hg, hnc, hcm, hs, ht⟩
    · cases h1
    · injection h1 with e1 e2 e3
      injection e1 with e1
      injection e1 with e1
      subst e1 e3
      have hsz : l.length * La.k ≤ cur.size := by rw [hs]; exact Nat.mul_le_mul_right _ hnc
      refine .inr ⟨g, c, putCells cur (i * La.k) (La.f y), by rw [e2], hb, Blk.cells (_w := w) (t := La.e) _ cur _ _ hg, hnc, hcm, by rw [putCells_size, hs], ?_⟩
      rw [putCells_toList _ _ _ (by rw [La.len]; omega), La.len, take_put _ _ _ _ _ (La.len y) hik (by rw [Array.length_toList]; exact hsz), ht, Lay.flat_set l i y hi]
  obtain ⟨b1, b2⟩ := below_cells (Nat.le_refl g) (La.f y) (i * La.k) w
  exact h.setR (i := j) hR ho ⟨b1.os, b1.tape, b1.output, b1.size, fun k hk hne => far_setCells (fun e => hne (by rw [e]; rfl)) _ _ _⟩ (.inl rfl)
/-- A thing is stored at its place in a row that is known. -/
theorem wpList_put (HK : Hid (Kn b0 w0 w L R)) (j : Nat) (hgd : o.guard = none) (x y : Operand) (ho : o.op = .store La.e x y) {g n c : Nat} {l : List α} (hR : R[j]? = some (row La (.slice (some ⟨g, 0, none⟩) n c) l)) (i : Nat) (hi : i < l.length)
    (hx : a.eval x = .pointer (some ⟨g, i * La.k, none⟩)) (p : α) {v : Array Value} (hy : a.eval y = .agg v) (hv : v = (La.f p).toArray)
    (h : ∀ w', Hid (Kn b0 w0 w' L (R.set j (row La (.slice (some ⟨g, 0, none⟩) n c) (l.set i p)))) → wpList P ops Q rest (a.put o.dst undef) w') : wpList P ops Q (o :: rest) a w :=
  wpList_plain hgd fun K hK => by
    subst hv
    have hown := HK.out.own j hR
    have hik : i * La.k + La.k ≤ l.length * La.k := by
      have h1 : (i + 1) * La.k ≤ l.length * La.k := Nat.mul_le_mul_right _ hi
      rwa [Nat.succ_mul] at h1
    have ht : w.there g (i * La.k) (La.f p).toArray.size := by
      rcases hown.2 with ⟨h1, _⟩ | ⟨g', cap, cur, h1, hb, hg, hnc, hcm, hs, ht⟩
      · cases h1
      · injection h1 with e1 e2 e3
        injection e1 with e1
        injection e1 with e1
        subst e1
        have hbk : Blk w g La.e cur := hg
        intro q hq
        rw [List.size_toArray, La.len] at hq
        have hsz : l.length * La.k ≤ cur.size := by rw [hs]; exact Nat.mul_le_mul_right _ hnc
        rw [hbk.cell]
        exact ⟨by rw [Array.getElem?_eq_getElem (by omega)]; rfl, hbk.frozen _⟩
    have hz : (P.info? La.e).map (·.size) = some (La.f p).toArray.size := by
      rw [List.size_toArray, La.len]
      have h1 := La.info
      rw [Option.map_eq_some_iff] at h1 ⊢
      obtain ⟨q, h2, h3⟩ := h1
      refine ⟨q, h2, ?_⟩
      injection h3 with _ h3
      injection h3 with h3 _
    refine wp_store_mid La.e x y ho g (i * La.k) (La.f p).toArray hx hy ht hz ?_ (hK _ _ (h _ (Lib.hid ?_)))
    · rw [List.all_toArray, List.all_eq_true]
      exact fun u hu => La.one p u hu
    · show Kn b0 w0 (w.setCells g (i * La.k) (La.f p)) L _
      exact HK.out.putR hR i hi p
end
end Go.Proofs.Ytakjggmiilkmdaa
