/-
  One cell of a thing of a row that is known is another one: it is stored at its place.
  Pure of the program. No condition but those named.
-/
import Derived.Test.YtfganmbjaglmiaaStoPut
import Derived.Test.YtfganmbjaglmiaaSlm
set_option linter.unusedSimpArgs false
set_option linter.unusedVariables false
namespace Go.Proofs.Ytfganmbjaglmiaa
open Go.RowKit

section
variable {P : Program} {b0 : Nat} {w0 w : World} {L : List (Nat × TypeId × Array Value)} {R : List RowE} {ops : Array Oper} {rest : List Oper} {o : Oper} {a : Act} {Q : Exit → Act → World → Prop} {α : Type} {La : Lay P α}
/-- What a row that is known reads as. -/
theorem Kn.atR (h : Kn b0 w0 w L R) {j g n c : Nat} {l : List α} (hR : R[j]? = some (row La (.slice (some ⟨g, 0, none⟩) n c) l)) {i : Nat} {x : α} (hx : l[i]? = some x) (q : Nat) (v : Value) (hv : (La.f x)[q]? = some v) : w.cell? ⟨g, 0 + i * La.k + q, none⟩ = some v := by
  have hl := (List.getElem?_eq_some_iff.1 hx).1
  obtain ⟨b, o, e, _, hc⟩ := (h.own j hR).rd.1 (by omega)
  injection e with e
  injection e with e1 e2
  subst e1 e2
  exact hc i x hx q v hv
theorem Kn.atR0 (h : Kn b0 w0 w L R) {j g n c : Nat} {l : List α} (hR : R[j]? = some (row La (.slice (some ⟨g, 0, none⟩) n c) l)) {i : Nat} {x : α} (hx : l[i]? = some x) (q : Nat) (v : Value) (hv : (La.f x)[q]? = some v) : w.cell? ⟨g, i * La.k + q, none⟩ = some v := by
  have h1 := h.atR hR hx q v hv
  rwa [Nat.zero_add] at h1
theorem Lay.flat_setF (l : List α) (i : Nat) (x y : α) (hx : l[i]? = some x) (q : Nat) (hq : q < La.k) (v : Value) (hy : La.f y = (La.f x).set q v) : La.flat (l.set i y) = (La.flat l).set (i * La.k + q) v := by
  induction l generalizing i with
  | nil => simp at hx
  | cons z r ih =>
    have hz := La.len z
    match i, hx with
    | 0, hx =>
      simp only [List.getElem?_cons_zero, Option.some.injEq] at hx
      subst hx
      rw [List.set_cons_zero, Lay.flat_cons, Lay.flat_cons, Nat.zero_mul, Nat.zero_add, List.set_append_left _ _ (by omega), hy]
    | i + 1, hx =>
      rw [List.getElem?_cons_succ] at hx
      have e : (i + 1) * La.k + q = La.k + (i * La.k + q) := by rw [Nat.succ_mul]; omega
      rw [List.set_cons_succ, Lay.flat_cons, Lay.flat_cons, ih i hx, e, List.set_append_right _ _ (by omega), hz, Nat.add_sub_cancel_left]
theorem Kn.putF (h : Kn b0 w0 w L R) {j g n c : Nat} {l : List α} (hR : R[j]? = some (row La (.slice (some ⟨g, 0, none⟩) n c) l)) (i : Nat) (x y : α) (hx : l[i]? = some x) (q : Nat) (hq : q < La.k) (v : Value) (hy : La.f y = (La.f x).set q v) :
    Kn b0 w0 (w.setCell ⟨g, i * La.k + q, none⟩ v) L (R.set j (row La (.slice (some ⟨g, 0, none⟩) n c) (l.set i y))) := by
  have hown := h.own j hR
  have ho : (w.setCell ⟨g, i * La.k + q, none⟩ v).ownsRow b0 La.e La.k (.slice (some ⟨g, 0, none⟩) n c) (l.set i y).length (La.flat (l.set i y)) := by
    refine ⟨by rw [La.flat_length], ?_⟩
    rw [List.length_set]
    rcases hown.2 with ⟨h1, _⟩ | ⟨g', cap, cur, h1, hb, hg, hnc, hcm, hs, ht⟩
    · cases h1
    · injection h1 with e1 e2 e3
      injection e1 with e1
      injection e1 with e1
      subst e1 e3
      refine .inr ⟨g, c, cur.setIfInBounds (i * La.k + q) v, by rw [e2], hb, Blk.set_ (w := w) (t := La.e) hg _ _, hnc, hcm, by rw [Array.size_setIfInBounds, hs], ?_⟩
      rw [Array.toList_setIfInBounds, List.take_set, ht, Lay.flat_setF l i x y hx q hq v hy]
  obtain ⟨b1, b2⟩ := below_cells (Nat.le_refl g) [v] (i * La.k + q) w
  exact h.setR (i := j) hR ho ⟨b1.os, b1.tape, b1.output, b1.size, fun k hk hne => far_setCells (fun e => hne (by rw [e]; rfl)) [v] _ _⟩ (.inl rfl)
/-- One cell is stored. -/
theorem kwp_putF {K : Act → World → Prop} (HK : Hid (Kn b0 w0 w L R)) (j : Nat) (ty : TypeId) (p1 p2 : Operand) (ho : o.op = .store ty p1 p2) {g n c : Nat} {l : List α} (hR : R[j]? = some (row La (.slice (some ⟨g, 0, none⟩) n c) l)) (i : Nat) (x y : α) (hx : l[i]? = some x) (q : Nat) (hq : q < La.k)
    (hp : a.eval p1 = .pointer (some ⟨g, i * La.k + q, none⟩)) {v : Value} (hv : a.eval p2 = v) (hc : v.cells = #[v]) (h1 : v.oneCell' = true) (hi : (P.info? ty).map (·.size) = some 1) (hy : La.f y = (La.f x).set q v)
    (h : ∀ w', Hid (Kn b0 w0 w' L (R.set j (row La (.slice (some ⟨g, 0, none⟩) n c) (l.set i y)))) → K (a.put o.dst undef) w') : o.wp P a w K Q := by
  have hown := HK.out.own j hR
  have hb : ∃ cur, Blk w g La.e cur ∧ i * La.k + q < cur.size := by
    rcases hown.2 with ⟨h1, _⟩ | ⟨g', cap, cur, h1, hb, hg, hnc, hcm, hs, ht⟩
    · cases h1
    · injection h1 with e1 e2 e3
      injection e1 with e1
      injection e1 with e1
      subst e1
      have hil := (List.getElem?_eq_some_iff.1 hx).1
      have h1 : (i + 1) * La.k ≤ l.length * La.k := Nat.mul_le_mul_right _ hil
      have hsz : l.length * La.k ≤ cur.size := by rw [hs]; exact Nat.mul_le_mul_right _ hnc
      rw [Nat.succ_mul] at h1
      exact ⟨cur, hg, by omega⟩
  obtain ⟨cs, hb, hsz⟩ := hb
  have hs := run_storeCells_cells (P := P) g (i * La.k + q) [v] 0 w (fun j hj => by
      have : j = 0 := by simpa using hj
      subst this
      rw [hb.cell, Array.getElem?_eq_getElem (by omega)]; rfl) (fun j _ => hb.frozen _) (fun u hu => by simp at hu; subst hu; exact h1)
  simp only [Nat.add_zero] at hs
  have hr : (storeVar ty ⟨g, i * La.k + q, none⟩ v).run P w = .ok () (w.setCell ⟨g, i * La.k + q, none⟩ v) := by
    cases hq : P.info? ty with
    | none => simp [hq] at hi
    | some z =>
      have hs1 : z.size = 1 := by simpa [hq] using hi
      simp [storeVar, sizeOf, typeInfo, hq, hc, hs1, hs, World.setCells]
  unfold Oper.wp execOp
  simp only [ho, hp, hv, Instr.storeAt, Instr.sureAddr, Sem.run_bind, Sem.run_pure, Result.andThen_ok, hr]
  exact h _ (Lib.hid (HK.out.putF hR i x y hx q hq v hy))
theorem wpList_putF (HK : Hid (Kn b0 w0 w L R)) (j : Nat) (hgd : o.guard = none) (ty : TypeId) (p1 p2 : Operand) (ho : o.op = .store ty p1 p2) {g n c : Nat} {l : List α} (hR : R[j]? = some (row La (.slice (some ⟨g, 0, none⟩) n c) l)) (i : Nat) (x y : α) (hx : l[i]? = some x) (q : Nat) (hq : q < La.k)
    (hp : a.eval p1 = .pointer (some ⟨g, i * La.k + q, none⟩)) {v : Value} (hv : a.eval p2 = v) (hc : v.cells = #[v]) (h1 : v.oneCell' = true) (hi : (P.info? ty).map (·.size) = some 1) (hy : La.f y = (La.f x).set q v)
    (h : ∀ w', Hid (Kn b0 w0 w' L (R.set j (row La (.slice (some ⟨g, 0, none⟩) n c) (l.set i y)))) → wpList P ops Q rest (a.put o.dst undef) w') : wpList P ops Q (o :: rest) a w :=
  wpList_plain hgd fun _ hK => kwp_putF HK j ty p1 p2 ho hR i x y hx q hq hp hv hc h1 hi hy fun w' h2 => hK _ _ (h w' h2)
theorem step_putF {K : Act → World → Prop} {E : Prop} (HK : Hid (Kn b0 w0 w L R)) (j : Nat) (hgd : o.guard = none) (ty : TypeId) (p1 p2 : Operand) (ho : o.op = .store ty p1 p2) {g n c : Nat} {l : List α} (hR : R[j]? = some (row La (.slice (some ⟨g, 0, none⟩) n c) l)) (i : Nat) (x y : α) (hx : l[i]? = some x) (q : Nat) (hq : q < La.k)
    (hp : a.eval p1 = .pointer (some ⟨g, i * La.k + q, none⟩)) {v : Value} (hv : a.eval p2 = v) (hc : v.cells = #[v]) (h1 : v.oneCell' = true) (hi : (P.info? ty).map (·.size) = some 1) (hy : La.f y = (La.f x).set q v)
    (h : ∀ w', Hid (Kn b0 w0 w' L (R.set j (row La (.slice (some ⟨g, 0, none⟩) n c) (l.set i y)))) → K (a.put o.dst undef) w') : if Region.wanted o (yielded ops a.tmps) = true then Oper.wp P o a w K Q else E := by
  rw [if_pos (by simp [Region.wanted, hgd])]
  exact kwp_putF HK j ty p1 p2 ho hR i x y hx q hq hp hv hc h1 hi hy h
end
end Go.Proofs.Ytfganmbjaglmiaa
