/- A thing of a row that is known is another one: its cells are stored at its place. No condition but those named. -/
import Derived.Test.YtpkodjllljnleaaGreatTk
import Derived.Test.YtpkodjllljnleaaGreatMD
import Derived.Test.YtpkodjllljnleaaGreatMF
import Derived.Deep.MidRow
set_option linter.unusedSimpArgs false
set_option linter.unusedVariables false
namespace Go.Proofs.YtpkodjllljnleaaGreat
open Go.RowKit
section
variable {P : Program} {b0 : Nat} {w0 w : World} {L : List (Nat × TypeId × Array Value)} {R : List RowE} {ops : Array Oper} {rest : List Oper} {o : Oper} {a : Act} {Q : Exit → Act → World → Prop} {α : Type} {La : Lay P α}
theorem Lay.flat_set (l : List α) (i : Nat) (y : α) (hi : i < l.length) : La.flat (l.set i y) = (La.flat l).take (i * La.k) ++ La.f y ++ (La.flat l).drop (i * La.k + La.k) := by
 induction l generalizing i with
 | nil => simp at hi
 | cons x r ih =>
  have hx := La.len x
  match i, hi with
  | 0, _ =>
   rw [List.set_cons_zero, Lay.flat_cons, Lay.flat_cons, Nat.zero_mul, List.take_zero, lnA, Nat.zero_add, List.drop_left' hx]
  | i + 1, hi =>
   have hi' : i < r.length := by simpa using hi
   have e : (i + 1) * La.k = La.k + i * La.k := by rw [Nat.succ_mul, Nat.add_comm]
   have e1 : (La.f x ++ La.flat r).take (La.k + i * La.k) = La.f x ++ (La.flat r).take (i * La.k) := by
    rw [List.take_append, List.take_of_length_le (by omega), hx, Nat.add_sub_cancel_left]
   have e2 : (La.f x ++ La.flat r).drop (La.k + i * La.k + La.k) = (La.flat r).drop (i * La.k + La.k) := by
    rw [List.drop_append, List.drop_of_length_le (by omega), hx, lnA]
    congr 1
    omega
   rw [List.set_cons_succ, Lay.flat_cons, Lay.flat_cons, ih i hi', e, e1, e2]
   simp only [List.append_assoc]
theorem take_put {β : Type} (T V : List β) (p k m : Nat) (hV : V.length = k) (h1 : p + k ≤ m) (h2 : m ≤ T.length) : (T.take p ++ V ++ T.drop (p + k)).take m = (T.take m).take p ++ V ++ (T.take m).drop (p + k) := by
 have l1 : (T.take p).length = p := by rw [List.length_take]; omega
 rw [List.append_assoc, List.take_append, l1, List.take_of_length_le (i := m) (l := T.take p) (by rw [l1]; omega), List.take_append, hV, List.take_of_length_le (i := m - p) (l := V) (by omega), List.take_take, Nat.min_eq_left (by omega), List.drop_take, List.append_assoc, show m - p - k = m - (p + k) by omega]
theorem putCells_size : ∀ (vs : List Value) (cs : Array Value) (p : Nat), (putCells cs p vs).size = cs.size
 | [], _, _ => rfl
 | v :: r, cs, p => by
  rw [putCells, putCells_size r, Array.size_setIfInBounds]
theorem far_setCells {g k : Nat} (hne : k ≠ g) : ∀ (vs : List Value) (p : Nat) (w : World), (w.setCells g p vs).heap[k]? = w.heap[k]?
 | [], _, _ => rfl
 | v :: r, p, w => (far_setCells hne r (p + 1) (w.setCell ⟨g, p, none⟩ v)).trans (Below.heap_setCell w _ v k hne)
theorem Kn.headR (h : Kn b0 w0 w L R) {j n c : Nat} {A : Option Addr} {l : List α} (hR : R[j]? = some (row La (.slice A n c) l)) (hl : 0 < l.length) : ∃ g, A = some ⟨g, 0, none⟩ := by
 rcases (h.own j hR).2 with ⟨_, h0⟩ | ⟨g, cap, cur, h1, _⟩
 ·omega
 ·injection h1 with h1
  exact ⟨g, h1⟩
theorem Kn.putR (h : Kn b0 w0 w L R) {j g n c : Nat} {l : List α} (hR : R[j]? = some (row La (.slice (some ⟨g, 0, none⟩) n c) l)) (i : Nat) (hi : i < l.length) (y : α) :
  Kn b0 w0 (w.setCells g (i * La.k) (La.f y)) L (R.set j (row La (.slice (some ⟨g, 0, none⟩) n c) (l.set i y))) := by
 have hown := h.own j hR
 have hik : i * La.k + La.k ≤ l.length * La.k := by
  have h1 : (i + 1) * La.k ≤ l.length * La.k := Nat.mul_le_mul_right _ hi
  rwa [Nat.succ_mul] at h1
 have ho : (w.setCells g (i * La.k) (La.f y)).ownsRow b0 La.e La.k (.slice (some ⟨g, 0, none⟩) n c) (l.set i y).length (La.flat (l.set i y)) := by
  refine ⟨by rw [La.flat_length], ?_⟩
  rw [List.length_set]
  rcases hown.2 with ⟨h1, _⟩ | ⟨g', cap, cur, h1, hb, hg, hnc, hcm, hs, ht⟩
  ·cases h1
  ·injection h1 with e1 e2 e3
   injection e1 with e1
   injection e1 with e1
   subst e1 e3
   have hsz : l.length * La.k ≤ cur.size := by rw [hs]; exact Nat.mul_le_mul_right _ hnc
   refine .inr ⟨g, c, putCells cur (i * La.k) (La.f y), by rw [e2], hb, Blk.cells (_w := w) (t := La.e) _ cur _ _ hg, hnc, hcm, by rw [putCells_size, hs], ?_⟩
   rw [putCells_toList _ _ _ (by rw [La.len]; omega), La.len, take_put _ _ _ _ _ (La.len y) hik (by rw [Array.length_toList]; exact hsz), ht, Lay.flat_set l i y hi]
 obtain ⟨b1, b2⟩ := below_cells (Nat.le_refl g) (La.f y) (i * La.k) w
 exact h.setR (i := j) hR ho ⟨b1.os, b1.tape, b1.output, b1.size, fun k hk hne => far_setCells (fun e => hne (by rw [e]; rfl)) _ _ _⟩ (.inl rfl)
theorem wpList_put (HK : Hid (Kn b0 w0 w L R)) (j : Nat) (hgd : o.guard = none) (x y : Operand) (ho : o.op = .store La.e x y) {g n c : Nat} {l : List α} (hR : R[j]? = some (row La (.slice (some ⟨g, 0, none⟩) n c) l)) (i : Nat) (hi : i < l.length)
  (hx : a.eval x = .pointer (some ⟨g, i * La.k, none⟩)) (p : α) {v : Array Value} (hy : a.eval y = .agg v) (hv : v = (La.f p).toArray)
  (h : ∀ w', Hid (Kn b0 w0 w' L (R.set j (row La (.slice (some ⟨g, 0, none⟩) n c) (l.set i p)))) → wpList P ops Q rest (a.put o.dst undef) w') : wpList P ops Q (o :: rest) a w :=
 wpList_plain hgd fun K hK => by
  subst hv
  have hown := HK.out.own j hR
  have hik : i * La.k + La.k ≤ l.length * La.k := by
   have h1 : (i + 1) * La.k ≤ l.length * La.k := Nat.mul_le_mul_right _ hi
   rwa [Nat.succ_mul] at h1
  have ht : w.there g (i * La.k) (La.f p).toArray.size := by
   rcases hown.2 with ⟨h1, _⟩ | ⟨g', cap, cur, h1, hb, hg, hnc, hcm, hs, ht⟩
   ·cases h1
   ·injection h1 with e1 e2 e3
    injection e1 with e1
    injection e1 with e1
    subst e1
    have hbk : Blk w g La.e cur := hg
    intro q hq
    rw [List.size_toArray, La.len] at hq
    have hsz : l.length * La.k ≤ cur.size := by rw [hs]; exact Nat.mul_le_mul_right _ hnc
    rw [hbk.cell]
    exact ⟨by rw [Array.getElem?_eq_getElem (by omega)]; rfl, hbk.frozen _⟩
  have hz : (P.info? La.e).map (·.size) = some (La.f p).toArray.size := by
   rw [List.size_toArray, La.len]
   have h1 := La.info
   rw [Option.map_eq_some_iff] at h1 ⊢
   obtain ⟨q, h2, h3⟩ := h1
   refine ⟨q, h2, ?_⟩
   injection h3 with _ h3
   injection h3 with h3 _
  refine wp_store_mid La.e x y ho g (i * La.k) (La.f p).toArray hx hy ht hz ?_ (hK _ _ (h _ (zH ?_)))
  ·rw [List.all_toArray, List.all_eq_true]
   exact fun u hu => La.one p u hu
  ·show Kn b0 w0 (w.setCells g (i * La.k) (La.f p)) L _
   exact HK.out.putR hR i hi p
end
end Go.Proofs.YtpkodjllljnleaaGreat
namespace Go.Proofs.YtpkodjllljnleaaGreat
open Go.RowKit
section
variable {P : Program} {b0 : Nat} {w0 w : World} {L : List (Nat × TypeId × Array Value)} {R : List RowE} {ops : Array Oper} {rest : List Oper} {o : Oper} {a : Act} {Q : Exit → Act → World → Prop} {α : Type} {La : Lay P α}
theorem Kn.atR (h : Kn b0 w0 w L R) {j g n c : Nat} {l : List α} (hR : R[j]? = some (row La (.slice (some ⟨g, 0, none⟩) n c) l)) {i : Nat} {x : α} (hx : l[i]? = some x) (q : Nat) (v : Value) (hv : (La.f x)[q]? = some v) : w.cell? ⟨g, 0 + i * La.k + q, none⟩ = some v := by
 have hl := (List.getElem?_eq_some_iff.1 hx).1
 obtain ⟨b, o, e, _, hc⟩ := (h.own j hR).rd.1 (by omega)
 injection e with e
 injection e with e1 e2
 subst e1 e2
 exact hc i x hx q v hv
theorem Lay.flat_setF (l : List α) (i : Nat) (x y : α) (hx : l[i]? = some x) (q : Nat) (hq : q < La.k) (v : Value) (hy : La.f y = (La.f x).set q v) : La.flat (l.set i y) = (La.flat l).set (i * La.k + q) v := by
 induction l generalizing i with
 | nil => simp at hx
 | cons z r ih =>
  have hz := La.len z
  match i, hx with
  | 0, hx =>
   simp only [List.getElem?_cons_zero, Option.some.injEq] at hx
   subst hx
   rw [List.set_cons_zero, Lay.flat_cons, Lay.flat_cons, Nat.zero_mul, Nat.zero_add, List.set_append_left _ _ (by omega), hy]
  | i + 1, hx =>
   rw [List.getElem?_cons_succ] at hx
   have e : (i + 1) * La.k + q = La.k + (i * La.k + q) := by rw [Nat.succ_mul]; omega
   rw [List.set_cons_succ, Lay.flat_cons, Lay.flat_cons, ih i hx, e, List.set_append_right _ _ (by omega), hz, Nat.add_sub_cancel_left]
theorem Kn.putF (h : Kn b0 w0 w L R) {j g n c : Nat} {l : List α} (hR : R[j]? = some (row La (.slice (some ⟨g, 0, none⟩) n c) l)) (i : Nat) (x y : α) (hx : l[i]? = some x) (q : Nat) (hq : q < La.k) (v : Value) (hy : La.f y = (La.f x).set q v) :
  Kn b0 w0 (w.setCell ⟨g, i * La.k + q, none⟩ v) L (R.set j (row La (.slice (some ⟨g, 0, none⟩) n c) (l.set i y))) := by
 have hown := h.own j hR
 have ho : (w.setCell ⟨g, i * La.k + q, none⟩ v).ownsRow b0 La.e La.k (.slice (some ⟨g, 0, none⟩) n c) (l.set i y).length (La.flat (l.set i y)) := by
  refine ⟨by rw [La.flat_length], ?_⟩
  rw [List.length_set]
  rcases hown.2 with ⟨h1, _⟩ | ⟨g', cap, cur, h1, hb, hg, hnc, hcm, hs, ht⟩
  ·cases h1
  ·injection h1 with e1 e2 e3
   injection e1 with e1
   injection e1 with e1
   subst e1 e3
   refine .inr ⟨g, c, cur.setIfInBounds (i * La.k + q) v, by rw [e2], hb, Blk.set_ (w := w) (t := La.e) hg _ _, hnc, hcm, by rw [Array.size_setIfInBounds, hs], ?_⟩
   rw [Array.toList_setIfInBounds, List.take_set, ht, Lay.flat_setF l i x y hx q hq v hy]
 obtain ⟨b1, b2⟩ := below_cells (Nat.le_refl g) [v] (i * La.k + q) w
 exact h.setR (i := j) hR ho ⟨b1.os, b1.tape, b1.output, b1.size, fun k hk hne => far_setCells (fun e => hne (by rw [e]; rfl)) [v] _ _⟩ (.inl rfl)
theorem kwp_putF {K : Act → World → Prop} (HK : Hid (Kn b0 w0 w L R)) (j : Nat) (ty : TypeId) (p1 p2 : Operand) (ho : o.op = .store ty p1 p2) {g n c : Nat} {l : List α} (hR : R[j]? = some (row La (.slice (some ⟨g, 0, none⟩) n c) l)) (i : Nat) (x y : α) (hx : l[i]? = some x) (q : Nat) (hq : q < La.k)
  (hp : a.eval p1 = .pointer (some ⟨g, i * La.k + q, none⟩)) {v : Value} (hv : a.eval p2 = v) (hc : v.cells = #[v]) (h1 : v.oneCell' = true) (hi : (P.info? ty).map (·.size) = some 1) (hy : La.f y = (La.f x).set q v)
  (h : ∀ w', Hid (Kn b0 w0 w' L (R.set j (row La (.slice (some ⟨g, 0, none⟩) n c) (l.set i y)))) → K (a.put o.dst undef) w') : o.wp P a w K Q := by
 have hown := HK.out.own j hR
 have hb : ∃ cur, Blk w g La.e cur ∧ i * La.k + q < cur.size := by
  rcases hown.2 with ⟨h1, _⟩ | ⟨g', cap, cur, h1, hb, hg, hnc, hcm, hs, ht⟩
  ·cases h1
  ·injection h1 with e1 e2 e3
   injection e1 with e1
   injection e1 with e1
   subst e1
   have hil := (List.getElem?_eq_some_iff.1 hx).1
   have h1 : (i + 1) * La.k ≤ l.length * La.k := Nat.mul_le_mul_right _ hil
   have hsz : l.length * La.k ≤ cur.size := by rw [hs]; exact Nat.mul_le_mul_right _ hnc
   rw [Nat.succ_mul] at h1
   exact ⟨cur, hg, by omega⟩
 obtain ⟨cs, hb, hsz⟩ := hb
 have hs := run_storeCells_cells (P := P) g (i * La.k + q) [v] 0 w (fun j hj => by
   have : j = 0 := by simpa using hj
   subst this
   rw [hb.cell, Array.getElem?_eq_getElem (by omega)]; rfl) (fun j _ => hb.frozen _) (fun u hu => by simp at hu; subst hu; exact h1)
 simp only [Nat.add_zero] at hs
 have hr : (storeVar ty ⟨g, i * La.k + q, none⟩ v).run P w = .ok () (w.setCell ⟨g, i * La.k + q, none⟩ v) := by
  cases hq : P.info? ty with
  | none => simp [hq] at hi
  | some z =>
   have hs1 : z.size = 1 := by simpa [hq] using hi
   simp [storeVar, sizeOf, typeInfo, hq, hc, hs1, hs, World.setCells]
 unfold Oper.wp execOp
 simp only [ho, hp, hv, Instr.storeAt, Instr.sureAddr, Sem.run_bind, Sem.run_pure, Result.andThen_ok, hr]
 exact h _ (zH (HK.out.putF hR i x y hx q hq v hy))
theorem wpList_putF (HK : Hid (Kn b0 w0 w L R)) (j : Nat) (hgd : o.guard = none) (ty : TypeId) (p1 p2 : Operand) (ho : o.op = .store ty p1 p2) {g n c : Nat} {l : List α} (hR : R[j]? = some (row La (.slice (some ⟨g, 0, none⟩) n c) l)) (i : Nat) (x y : α) (hx : l[i]? = some x) (q : Nat) (hq : q < La.k)
  (hp : a.eval p1 = .pointer (some ⟨g, i * La.k + q, none⟩)) {v : Value} (hv : a.eval p2 = v) (hc : v.cells = #[v]) (h1 : v.oneCell' = true) (hi : (P.info? ty).map (·.size) = some 1) (hy : La.f y = (La.f x).set q v)
  (h : ∀ w', Hid (Kn b0 w0 w' L (R.set j (row La (.slice (some ⟨g, 0, none⟩) n c) (l.set i y)))) → wpList P ops Q rest (a.put o.dst undef) w') : wpList P ops Q (o :: rest) a w :=
 wpList_plain hgd fun _ hK => kwp_putF HK j ty p1 p2 ho hR i x y hx q hq hp hv hc h1 hi hy fun w' h2 => hK _ _ (h w' h2)
theorem step_putF {K : Act → World → Prop} {E : Prop} (HK : Hid (Kn b0 w0 w L R)) (j : Nat) (hgd : o.guard = none) (ty : TypeId) (p1 p2 : Operand) (ho : o.op = .store ty p1 p2) {g n c : Nat} {l : List α} (hR : R[j]? = some (row La (.slice (some ⟨g, 0, none⟩) n c) l)) (i : Nat) (x y : α) (hx : l[i]? = some x) (q : Nat) (hq : q < La.k)
  (hp : a.eval p1 = .pointer (some ⟨g, i * La.k + q, none⟩)) {v : Value} (hv : a.eval p2 = v) (hc : v.cells = #[v]) (h1 : v.oneCell' = true) (hi : (P.info? ty).map (·.size) = some 1) (hy : La.f y = (La.f x).set q v)
  (h : ∀ w', Hid (Kn b0 w0 w' L (R.set j (row La (.slice (some ⟨g, 0, none⟩) n c) (l.set i y)))) → K (a.put o.dst undef) w') : if Region.wanted o (yielded ops a.tmps) = true then Oper.wp P o a w K Q else E := by
 rw [if_pos (by simp [Region.wanted, hgd])]
 exact kwp_putF HK j ty p1 p2 ho hR i x y hx q hq hp hv hc h1 hi hy h
end
end Go.Proofs.YtpkodjllljnleaaGreat
