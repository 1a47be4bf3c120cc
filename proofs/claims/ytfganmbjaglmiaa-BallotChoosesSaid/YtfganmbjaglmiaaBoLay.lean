/-
  Rows of bools: how they lie, places in them, made ones; a thing's block made.
  No condition but those named.
-/
import Derived.Test.YtfganmbjaglmiaaSlm
import Derived.Test.YtfganmbjaglmiaaExn
import Derived.Test.YtfganmbjaglmiaaStoPut
import Derived.Test.YtfganmbjaglmiaaKnJoin
import Derived.Test.YtfganmbjaglmiaaOpensT
import Derived.Laws.MakeOwn
import Derived.OpenShut
import Derived.KernelRfl
set_option linter.unusedSimpArgs false
set_option linter.unusedVariables false
set_option maxRecDepth 100000
namespace Go.Proofs.Ytfganmbjaglmiaa
open Go.ChangeShapes Go.WideShapes Go.Deep Go.RowKit

theorem info_b : (Try.prog.info? 4).map (fun i => (i.zero, i.size, i.bytes)) = some (some (Value.bool false), 1, 1) := by kernel_rfl
def bLay : Lay Try.prog Bool where
  t := 45
  e := 4
  k := 1
  bytes := 1
  z := .bool false
  f := fun x => [.bool x]
  len := fun _ => rfl
  one := fun x u hu => by
    simp only [List.mem_cons, List.not_mem_nil, or_false] at hu
    rcases hu with rfl
    rfl
  und := Try.underlying45
  info := info_b
  zs := rfl
  pos := by decide
  small := by decide
def bF (_ : Bool) : Prop := True
section
variable {b0 : Nat} {w0 w : World} {L : List (Nat × TypeId × Array Value)} {R : List RowE} {ops : Array Oper} {rest : List Oper} {o : Oper} {a : Act} {Q : Exit → Act → World → Prop} {K : Act → World → Prop} {E : Prop} {g : Nat}
/-- A thing's block made. -/
theorem lrun_made {P : Program} {e : TypeId} {z : Value} {k b : Nat} (hi : (P.info? e).map (fun i => (i.zero, i.size, i.bytes)) = some (some z, k, b)) (w : World) : (Instr.alloc e true (.tuple #[])).run P w = .ok (.pointer (some ⟨w.heap.size, 0, none⟩)) (w.alloc (.cells z.cells e)) := by
  obtain ⟨i0, hi, hz0, hz1, hz2⟩ := info_parts hi
  simp [Instr.alloc, zeroValue, typeInfo, hi, hz0, newVar, newRow]
theorem lkwp_made {e : TypeId} {z : Value} {k b : Nat} (hi : (Try.prog.info? e).map (fun i => (i.zero, i.size, i.bytes)) = some (some z, k, b)) (HK : Hid (Kn b0 w0 w L R)) (ho : o.op = .alloc e)
    (h : ∀ w' g, Hid (Kn b0 w0 w' (L ++ [(g, e, z.cells)]) R) → Hid (Below w.heap.size w w') → K (a.put o.dst (.pointer (some ⟨g, 0, none⟩))) w') : o.wp Try.prog a w K Q := by
  have h4 := h _ w.heap.size (Lib.hid (HK.out.alloc e z.cells)) (Lib.hid ((Below.refl _ w).alloc (Nat.le_refl _) _))
  unfold Oper.wp execOp
  simp only [ho, Sem.run_bind, Sem.run_pure, lrun_made hi, Result.andThen_ok]
  exact h4
theorem exec_ixb {b off n c i : Nat} (x q : Operand) (ho : o.op = .indexAddr 45 x q) (hx : a.eval x = .slice (some ⟨b, off, none⟩) n c) (hq : a.eval q = .int .i64 (i : Int)) (h : i < n) :
    (execOp a.eval o).run Try.prog w = .ok (.value (.pointer (some ⟨b, off + i, none⟩))) w := by
  have h1 := exec_slx (w := w) bLay x q ho hx hq h
  have e : off + i * bLay.k = off + i := by show off + i * 1 = _; rw [Nat.mul_one]
  rw [e] at h1
  exact h1
theorem exec_lcb {b off : Nat} {x : Bool} (p : Operand) (ho : o.op = .load 4 p) (hx : a.eval p = .pointer (some ⟨b, off, none⟩)) (hc : w.cell? ⟨b, off, none⟩ = some (.bool x)) :
    (execOp a.eval o).run Try.prog w = .ok (.value (.bool x)) w :=
  exec_cell p ho hx hc Try.underlying4 rfl
theorem kwp_ptb (HK : Hid (Kn b0 w0 w L R)) (j : Nat) (x y : Operand) (ho : o.op = .store 4 x y) {g n c : Nat} {l : List Bool} (hR : R[j]? = some (row bLay (.slice (some ⟨g, 0, none⟩) n c) l)) (i : Nat) (hi : i < l.length)
    (hx : a.eval x = .pointer (some ⟨g, i, none⟩)) (p : Bool) (hy : a.eval y = .bool p)
    (h : ∀ w', Hid (Kn b0 w0 w' L (R.set j (row bLay (.slice (some ⟨g, 0, none⟩) n c) (l.set i p)))) → K (a.put o.dst undef) w') : o.wp Try.prog a w K Q := by
  have hk := HK.out.putR hR i hi p
  have hown := HK.out.own j hR
  have e1 : i * bLay.k = i := Nat.mul_one i
  rw [e1] at hk
  have hcell : ∃ cur, Blk w g 4 cur ∧ i < cur.size := by
    rcases hown.2 with ⟨h1, _⟩ | ⟨g', cap, cur, h1, hb, hg, hnc, hcm, hs, ht⟩
    · cases h1
    · injection h1 with e1 e2 e3
      injection e1 with e1
      injection e1 with e1
      subst e1
      have hs' : cur.size = cap * 1 := hs
      exact ⟨cur, hg, by omega⟩
  obtain ⟨cur, hb, hsz⟩ := hcell
  have hs := run_storeCells_cells (P := Try.prog) g i [.bool p] 0 w (fun j hj => by
      have : j = 0 := by simpa using hj
      subst this
      rw [hb.cell, Array.getElem?_eq_getElem (by omega)]; rfl) (fun j _ => hb.frozen _) (fun u hu => by simp at hu; subst hu; rfl)
  simp only [Nat.add_zero] at hs
  have hi1 : (Try.prog.info? 4).map (·.size) = some 1 := by kernel_rfl
  have hr : (storeVar 4 ⟨g, i, none⟩ (.bool p)).run Try.prog w = .ok () (w.setCells g i [.bool p]) := by
    cases hq : Try.prog.info? 4 with
    | none => simp [hq] at hi1
    | some q =>
      have hs1 : q.size = 1 := by simpa [hq] using hi1
      simp [storeVar, sizeOf, typeInfo, hq, Value.cells, hs1, hs]
  unfold Oper.wp execOp
  simp only [ho, hx, hy, Instr.storeAt, Instr.sureAddr, Sem.run_bind, Sem.run_pure, Result.andThen_ok, hr]
  exact h _ (Lib.hid hk)
theorem wpList_ptb (HK : Hid (Kn b0 w0 w L R)) (j : Nat) (hgd : o.guard = none) (x y : Operand) (ho : o.op = .store 4 x y) {g n c : Nat} {l : List Bool} (hR : R[j]? = some (row bLay (.slice (some ⟨g, 0, none⟩) n c) l)) (i : Nat) (hi : i < l.length)
    (hx : a.eval x = .pointer (some ⟨g, i, none⟩)) (p : Bool) (hy : a.eval y = .bool p)
    (h : ∀ w', Hid (Kn b0 w0 w' L (R.set j (row bLay (.slice (some ⟨g, 0, none⟩) n c) (l.set i p)))) → wpList Try.prog ops Q rest (a.put o.dst undef) w') : wpList Try.prog ops Q (o :: rest) a w :=
  wpList_plain hgd fun _ hK => kwp_ptb HK j x y ho hR i hi hx p hy fun w' h1 => hK _ _ (h w' h1)
theorem flat_zb (n : Nat) (z : Bool) : bLay.flat (List.replicate n z) = List.replicate n (.bool z) := by
  induction n with
  | zero => rfl
  | succ n ih => rw [List.replicate_succ, List.replicate_succ, Lay.flat_cons, ih]; rfl
theorem kwp_mnb (HK : Hid (Kn b0 w0 w L R)) (x : Operand) {n : Nat} (ho : o.op = .makeSlice 45 x x) (hx : a.eval x = .int .i64 (n : Int)) (hn : n ≤ 65536)
    (h : ∀ w' g, Hid (Kn b0 w0 w' L (R ++ [row bLay (.slice (some ⟨g, 0, none⟩) n n) (List.replicate n false)])) → Hid (Below w.heap.size w w') → K (a.put o.dst (.slice (some ⟨g, 0, none⟩) n n)) w') : o.wp Try.prog a w K Q := by
  obtain ⟨i0, hi, hz0, hz1, hz2⟩ := info_parts info_b
  have hm := run_make (P := Try.prog) w 45 4 i0 (.bool false) Try.underlying45 hi hz0 .i64 .i64 (n : Int) (n : Int) (by omega) (by omega) (by rw [hz2]; omega) (by omega)
  have e : madeCells (Value.cells (.bool false)) (((n : Nat) : Int).toNat * i0.size) = (bLay.flat (List.replicate n false)).toArray := by
    rw [flat_zb, hz1]
    apply Array.ext'
    simp only [madeCells, Value.cells, Array.toList_map, Array.toList_range]
    apply List.ext_getElem (by simp)
    intro k h1 h2
    simp [Nat.mod_one]
  rw [e] at hm
  have h4 := h _ w.heap.size (Lib.hid (HK.out.mkS bLay (List.replicate n false) n (by simp) hn)) (Lib.hid ((Below.refl _ w).alloc (Nat.le_refl _) _))
  unfold Oper.wp execOp
  simp only [ho, hx, Sem.run_bind, Sem.run_pure, Result.andThen_ok, hm]
  exact h4
theorem wpList_mnb (HK : Hid (Kn b0 w0 w L R)) (hgd : o.guard = none) (x : Operand) {n : Nat} (ho : o.op = .makeSlice 45 x x) (hx : a.eval x = .int .i64 (n : Int)) (hn : n ≤ 65536)
    (h : ∀ w' g, Hid (Kn b0 w0 w' L (R ++ [row bLay (.slice (some ⟨g, 0, none⟩) n n) (List.replicate n false)])) → wpList Try.prog ops Q rest (a.put o.dst (.slice (some ⟨g, 0, none⟩) n n)) w') : wpList Try.prog ops Q (o :: rest) a w :=
  wpList_plain hgd fun _ hK => kwp_mnb HK x ho hx hn fun w' g h1 _ => hK _ _ (h w' g h1)
theorem step_mnb (HK : Hid (Kn b0 w0 w L R)) (hgd : o.guard = none) (x : Operand) {n : Nat} (ho : o.op = .makeSlice 45 x x) (hx : a.eval x = .int .i64 (n : Int)) (hn : n ≤ 65536)
    (h : ∀ w' g, Hid (Kn b0 w0 w' L (R ++ [row bLay (.slice (some ⟨g, 0, none⟩) n n) (List.replicate n false)])) → Hid (Below w.heap.size w w') → K (a.put o.dst (.slice (some ⟨g, 0, none⟩) n n)) w') : if Region.wanted o (yielded ops a.tmps) = true then Oper.wp Try.prog o a w K Q else E := by
  rw [if_pos (by simp [Region.wanted, hgd])]
  exact kwp_mnb HK x ho hx hn h
end
/-- Where it begins, if it isn't empty, and its cells. -/
theorem Sls.bat {w : World} {A : Option Addr} {n c : Nat} {l : List Bool} (h : Sls bLay bF w A n c l) (hn : 0 < n) : ∃ b o, A = some ⟨b, o, Option.none⟩ ∧
    ∀ W, Below w.heap.size w W → ∀ (i : Nat) x, l[i]? = some x → W.cell? ⟨b, o + i, Option.none⟩ = some (.bool x) := by
  obtain ⟨b, o, e, hat⟩ := h.at hn
  refine ⟨b, o, e, fun W hW i x hx => ?_⟩
  have h1 := hat W hW i x hx 0 _ rfl
  have e2 : o + i * bLay.k + 0 = o + i := by show o + i * 1 + 0 = _; omega
  rw [e2] at h1
  exact h1
end Go.Proofs.Ytfganmbjaglmiaa
