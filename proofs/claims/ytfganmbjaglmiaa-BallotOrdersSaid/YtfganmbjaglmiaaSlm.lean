/-
  Things of one kind, whatever they are: blocks that hold one, slices of them that are made, slices of slices; what is told new, or as it was handed in; pieces put together.
  Pure of the program: whatever type lies so. No condition but those named.
-/
import Derived.Test.YtfganmbjaglmiaaSls
import Derived.Great.BuildSlice
set_option linter.unusedSimpArgs false
set_option linter.unusedVariables false
namespace Go.Proofs.Ytfganmbjaglmiaa
open Go.RowKit

section
variable {P : Program} {α : Type} (La : Lay P α) {b0 : Nat} {w0 w : World} {L : List (Nat × TypeId × Array Value)} {R : List RowE} {ops : Array Oper} {rest : List Oper} {o : Oper} {a : Act} {Q : Exit → Act → World → Prop} {K : Act → World → Prop} {E : Prop} {g : Nat}
/-- A thing's block: made, stored whole, loaded whole. -/
theorem Lay.run_alloc (w : World) : (Instr.alloc La.e true (.tuple #[])).run P w = .ok (.pointer (some ⟨w.heap.size, 0, none⟩)) (w.alloc (.cells La.z.cells La.e)) := by
  obtain ⟨i0, hi, hz0, hz1, hz2⟩ := info_parts La.info
  simp [Instr.alloc, zeroValue, typeInfo, hi, hz0, newVar, newRow]
theorem wpList_ak (HK : Hid (Kn b0 w0 w L R)) (hgd : o.guard = none) (ho : o.op = .alloc La.e)
    (h : ∀ w' g, Hid (Kn b0 w0 w' (L ++ [(g, La.e, La.z.cells)]) R) → wpList P ops Q rest (a.put o.dst (.pointer (some ⟨g, 0, none⟩))) w') : wpList P ops Q (o :: rest) a w :=
  wpList_plain hgd fun K hK => by
    have h4 := h _ w.heap.size (Lib.hid (HK.out.alloc La.e La.z.cells))
    unfold Oper.wp execOp
    simp only [ho, Sem.run_bind, Sem.run_pure, La.run_alloc, Result.andThen_ok]
    exact hK _ _ h4
theorem Lay.size_info : (P.info? La.e).map (·.size) = some La.k := by
  obtain ⟨i0, hi, hz0, hz1, hz2⟩ := info_parts La.info
  rw [hi]; simp [hz1]
theorem Lay.all_one (p : α) : (La.f p).toArray.all (·.oneCell') = true := by
  rw [List.all_toArray, List.all_eq_true]
  exact La.one p
theorem wpList_st {p2 : α} {cs : Array Value} (HK : Hid (Kn b0 w0 w L R)) (i : Nat) (hgd : o.guard = none) (p q : Operand) (ho : o.op = .store La.e p q) (hL : L[i]? = some (g, La.e, cs)) (hcs : cs.size = La.k) (hx : a.eval p = .pointer (some ⟨g, 0, none⟩)) (hy : a.eval q = .agg (La.f p2).toArray)
    (h : ∀ w', Hid (Kn b0 w0 w' (L.set i (g, La.e, (La.f p2).toArray)) R) → wpList P ops Q rest (a.put o.dst undef) w') : wpList P ops Q (o :: rest) a w :=
  wpList_ss HK i hgd _ p q ho hL hx hy (by rw [hcs]; simp [La.len]) (by rw [La.size_info]; simp [La.len]) (La.all_one p2) fun w' h1 h2 => h w' (by
    have e : putCells cs 0 (La.f p2).toArray.toList = (La.f p2).toArray := by
      rw [putCells_all (by simp [hcs, La.len]), Array.toArray_toList]
    rw [e] at h1
    exact h1)
theorem step_st {p2 : α} {cs : Array Value} (HK : Hid (Kn b0 w0 w L R)) (i : Nat) (hgd : o.guard = none) (p q : Operand) (ho : o.op = .store La.e p q) (hL : L[i]? = some (g, La.e, cs)) (hcs : cs.size = La.k) (hx : a.eval p = .pointer (some ⟨g, 0, none⟩)) (hy : a.eval q = .agg (La.f p2).toArray)
    (h : ∀ w', Hid (Kn b0 w0 w' (L.set i (g, La.e, (La.f p2).toArray)) R) → K (a.put o.dst undef) w') : if Region.wanted o (yielded ops a.tmps) = true then Oper.wp P o a w K Q else E :=
  step_ss HK i hgd _ p q ho hL hx hy (by rw [hcs]; simp [La.len]) (by rw [La.size_info]; simp [La.len]) (La.all_one p2) fun w' h1 h2 => h w' (by
    have e : putCells cs 0 (La.f p2).toArray.toList = (La.f p2).toArray := by
      rw [putCells_all (by simp [hcs, La.len]), Array.toArray_toList]
    rw [e] at h1
    exact h1)
theorem kexec_ld {p : α} {fs : Array Field} (hs : P.underlying La.e = some (.struct fs)) (HK : Hid (Kn b0 w0 w L R)) (i : Nat) (x : Operand) (ho : o.op = .load La.e x) (hL : L[i]? = some (g, La.e, (La.f p).toArray)) (hx : a.eval x = .pointer (some ⟨g, 0, none⟩)) :
    (execOp a.eval o).run P w = .ok (.value (.agg (La.f p).toArray)) w :=
  kexec_ls HK _ x ho i hL hx (La.f p).toArray (fun j _ => by rw [Nat.zero_add]) hs (by rw [La.size_info]; simp [La.len])
/-- A made slice of things. -/
theorem Lay.run_mk (w : World) (l : List α) (vs : List Value) (hv : vs.map (fun v => v.cells.toList) = l.map La.f) (n : Nat) (hn : n = l.length) (hsm : n * La.k ≤ 65536) (parts : Array (Nat × Value)) (hp : parts.toList = (vs.zipIdx 0).map fun x => (x.2, x.1)) :
    (Instr.buildSlice La.t n parts).run P w = .ok (.slice (some ⟨w.heap.size, 0, none⟩) n n) (w.alloc (.cells (La.flat l).toArray La.e)) := by
  obtain ⟨i0, hi, hz0, hz1, hz2⟩ := info_parts La.info
  have hlen : vs.length = l.length := by have := congrArg List.length hv; simpa using this
  have hfl : (vs.flatMap fun v => v.cells.toList) = La.flat l := by
    unfold Lay.flat
    rw [List.flatMap_def, List.flatMap_def, hv]
  by_cases h0 : l = []
  · subst h0
    have hvs : vs = [] := List.length_eq_zero_iff.1 hlen
    subst hvs
    have hpp : parts = #[] := Array.toList_inj.1 (by rw [hp]; rfl)
    subst hpp
    obtain rfl : n = 0 := hn
    simp [Instr.buildSlice, run_underlying La.und, sizeOf, typeInfo, hi, Instr.fill, newRow, Lay.flat]
    rw [show Array.range 0 = #[] from Array.eq_empty_of_size_eq_zero (by simp), Array.map_empty]
  · have hpos : 0 < l.length := List.length_pos_iff.2 h0
    have hk := La.pos
    have hne : ¬ n * i0.size = 0 := by
      rw [hz1, hn]
      exact Nat.ne_of_gt (Nat.mul_pos hpos hk)
    refine Go.run_buildSlice w La.t La.e n parts _ i0 La.z La.und hi hz0 (by rw [hz1]; omega) hne ?_
    rw [hp, hz1]
    have h1 : ∀ v ∈ vs, v.cells.size = La.k := fun v hvm => by
      have : v.cells.toList ∈ l.map La.f := by rw [← hv]; exact List.mem_map.2 ⟨v, hvm, rfl⟩
      obtain ⟨x, _, hx⟩ := List.mem_map.1 this
      rw [← La.len x, hx, Array.length_toList]
    rw [Great.fill_whole hk vs _ h1 (by simp [hlen, hn]), hfl]
theorem Kn.mkS (h : Kn b0 w0 w L R) (l : List α) (n : Nat) (hn : n = l.length) (hl : n ≤ 65536) :
    Kn b0 w0 (w.alloc (.cells (La.flat l).toArray La.e)) L (R ++ [row La (.slice (some ⟨w.heap.size, 0, none⟩) n n) l]) :=
  h.called ((Below.refl _ w).alloc (Nat.le_refl _) _) (Lay.Own.new w l _ _ _ _ rfl (Nat.le_refl _) rfl hn hn (by omega))
theorem kwp_mk (HK : Hid (Kn b0 w0 w L R)) (l : List α) (n : Nat) (parts : Array (Nat × Operand)) (ho : o.op = .buildSlice La.t n parts) (vs : List Value) (hp : (parts.map fun (i, x) => (i, a.eval x)).toList = (vs.zipIdx 0).map fun x => (x.2, x.1)) (hv : vs.map (fun v => v.cells.toList) = l.map La.f) (hn : n = l.length) (hsm : n * La.k ≤ 65536)
    (h : ∀ w' g, Hid (Kn b0 w0 w' L (R ++ [row La (.slice (some ⟨g, 0, none⟩) n n) l])) → Hid (Below w.heap.size w w') → K (a.put o.dst (.slice (some ⟨g, 0, none⟩) n n)) w') : o.wp P a w K Q := by
  have hle : n ≤ 65536 := Nat.le_trans (Nat.le_mul_of_pos_right n La.pos) hsm
  have h4 := h _ w.heap.size (Lib.hid (HK.out.mkS La l n hn hle)) (Lib.hid ((Below.refl _ w).alloc (Nat.le_refl _) _))
  have hr := La.run_mk w l vs hv n hn hsm _ hp
  unfold Oper.wp execOp
  simp only [ho, Sem.run_bind, Sem.run_pure, Result.andThen_ok, hr]
  exact h4
theorem wpList_mk0 (HK : Hid (Kn b0 w0 w L R)) (hgd : o.guard = none) (ho : o.op = .buildSlice La.t 0 #[])
    (h : ∀ w' g, Hid (Kn b0 w0 w' L (R ++ [row La (.slice (some ⟨g, 0, none⟩) 0 0) []])) → wpList P ops Q rest (a.put o.dst (.slice (some ⟨g, 0, none⟩) 0 0)) w') : wpList P ops Q (o :: rest) a w :=
  wpList_plain hgd fun _ hK => kwp_mk La HK [] 0 #[] ho [] (by simp) rfl rfl (by omega) fun w' g h1 _ => hK _ _ (h w' g h1)
theorem wpList_mk1 {p : α} (HK : Hid (Kn b0 w0 w L R)) (hk : La.k ≤ 65536) (hgd : o.guard = none) (x : Operand) (ho : o.op = .buildSlice La.t 1 #[(0, x)]) {v : Value} (hx : a.eval x = v) (hv : v.cells.toList = La.f p)
    (h : ∀ w' g, Hid (Kn b0 w0 w' L (R ++ [row La (.slice (some ⟨g, 0, none⟩) 1 1) [p]])) → wpList P ops Q rest (a.put o.dst (.slice (some ⟨g, 0, none⟩) 1 1)) w') : wpList P ops Q (o :: rest) a w :=
  wpList_plain hgd fun _ hK => kwp_mk La HK [p] 1 _ ho [v] (by simp [hx]) (by simp [hv]) rfl (by omega) fun w' g h1 _ => hK _ _ (h w' g h1)
theorem step_mk0 (HK : Hid (Kn b0 w0 w L R)) (hgd : o.guard = none) (ho : o.op = .buildSlice La.t 0 #[])
    (h : ∀ w' g, Hid (Kn b0 w0 w' L (R ++ [row La (.slice (some ⟨g, 0, none⟩) 0 0) []])) → Hid (Below w.heap.size w w') → K (a.put o.dst (.slice (some ⟨g, 0, none⟩) 0 0)) w') : if Region.wanted o (yielded ops a.tmps) = true then Oper.wp P o a w K Q else E := by
  rw [if_pos (by simp [Region.wanted, hgd])]
  exact kwp_mk La HK [] 0 #[] ho [] (by simp) rfl rfl (by omega) h
theorem step_mk1 {p : α} (HK : Hid (Kn b0 w0 w L R)) (hk : La.k ≤ 65536) (hgd : o.guard = none) (x : Operand) (ho : o.op = .buildSlice La.t 1 #[(0, x)]) {v : Value} (hx : a.eval x = v) (hv : v.cells.toList = La.f p)
    (h : ∀ w' g, Hid (Kn b0 w0 w' L (R ++ [row La (.slice (some ⟨g, 0, none⟩) 1 1) [p]])) → Hid (Below w.heap.size w w') → K (a.put o.dst (.slice (some ⟨g, 0, none⟩) 1 1)) w') : if Region.wanted o (yielded ops a.tmps) = true then Oper.wp P o a w K Q else E := by
  rw [if_pos (by simp [Region.wanted, hgd])]
  exact kwp_mk La HK [p] 1 _ ho [v] (by simp [hx]) (by simp [hv]) rfl (by omega) h
theorem step_more2 (HK : Hid (Kn b0 w0 w L R)) (j : Nat) (hgd : o.guard = none) (s x : Operand) (ho : o.op = .call { callee := .builtin .append, args := #[s, x], argTypes := #[La.t, La.t] })
    {v : Value} {l : List α} (hR : R[j]? = some (row La v l)) (hs : a.eval s = v) (m : List α) {A : Option Addr} {n c B : Nat} (hx : a.eval x = .slice A n c) (hn : n = m.length) (hI : Hid (La.Reads w B A m ∧ (A = none → m = [])))
    (hl : Hid (l.length + m.length ≤ 9223372036854775807 ∧ (l.length + m.length) * La.bytes ≤ 211106232532992))
    {N : Nat} (hN : Hid ((l ++ m).length = N)) (h : ∀ A' c' w', Hid (Kn b0 w0 w' L (R.set j (row La (.slice A' N c') (l ++ m)))) → K (a.put o.dst (.slice A' N c')) w') : if Region.wanted o (yielded ops a.tmps) = true then Oper.wp P o a w K Q else E := by
  rw [if_pos (by simp [Region.wanted, hgd])]
  exact kwp_more HK La j s x ho hR hs m hx hn hI hl hN h
/-- How slices lie in a slice of slices. -/
structure Nest (La : Lay P α) where
  tt : TypeId
  und : P.underlying tt = some (.slice La.t)
  info : (P.info? La.t).map (fun i => (i.zero, i.size)) = some (some (.slice none 0 0), 1)
theorem Nest.run (N : Nest La) (w : World) (vs : List Value) (hv : ∀ v ∈ vs, v.cells = #[v]) (n : Nat) (hn : n = vs.length) (h0 : 0 < n) (hsm : n ≤ 65536) (parts : Array (Nat × Value)) (hp : parts.toList = (vs.zipIdx 0).map fun x => (x.2, x.1)) :
    (Instr.buildSlice N.tt n parts).run P w = .ok (.slice (some ⟨w.heap.size, 0, none⟩) n n) (w.alloc (.cells vs.toArray La.t)) := by
  have hi := N.info
  cases hq : P.info? La.t with
  | none => simp [hq] at hi
  | some i0 =>
    simp only [hq, Option.map_some, Option.some.injEq, Prod.mk.injEq] at hi
    obtain ⟨hz0, hz1⟩ := hi
    refine Go.run_buildSlice w N.tt La.t n parts _ i0 _ N.und hq hz0 (by rw [hz1]; omega) (by rw [hz1]; omega) ?_
    rw [hp, hz1]
    exact Great.fill_flat vs _ hv (by simp [hn])
theorem kwp_mks (N : Nest La) (HK : Hid (Kn b0 w0 w L R)) (n : Nat) (parts : Array (Nat × Operand)) (ho : o.op = .buildSlice N.tt n parts) (vs : List Value) (hp : (parts.map fun (i, x) => (i, a.eval x)).toList = (vs.zipIdx 0).map fun x => (x.2, x.1)) (hv : ∀ v ∈ vs, v.cells = #[v]) (hn : n = vs.length) (h0 : 0 < n) (hsm : n ≤ 65536)
    (h : ∀ w' g, Hid (Kn b0 w0 w' (L ++ [(g, La.t, vs.toArray)]) R) → Hid (Below w.heap.size w w') → K (a.put o.dst (.slice (some ⟨g, 0, none⟩) n n)) w') : o.wp P a w K Q := by
  have h4 := h _ w.heap.size (Lib.hid (HK.out.alloc La.t vs.toArray)) (Lib.hid ((Below.refl _ w).alloc (Nat.le_refl _) _))
  have hr := N.run La w vs hv n hn h0 hsm _ hp
  unfold Oper.wp execOp
  simp only [ho, Sem.run_bind, Sem.run_pure, Result.andThen_ok, hr]
  exact h4
variable (N : Nest La) {A A2 A3 : Option Addr} {n c n2 c2 n3 c3 : Nat}
theorem wpList_mks1 (HK : Hid (Kn b0 w0 w L R)) (hgd : o.guard = none) (x : Operand) (ho : o.op = .buildSlice N.tt 1 #[(0, x)]) (hx : a.eval x = .slice A n c)
    (h : ∀ w' g, Hid (Kn b0 w0 w' (L ++ [(g, La.t, #[.slice A n c])]) R) → Hid (Below w.heap.size w w') → wpList P ops Q rest (a.put o.dst (.slice (some ⟨g, 0, none⟩) 1 1)) w') : wpList P ops Q (o :: rest) a w :=
  wpList_plain hgd fun _ hK => kwp_mks La N HK 1 _ ho [.slice A n c] (by simp [hx]) (by simp [Value.cells]) rfl (by decide) (by decide) fun w' g h1 h2 => hK _ _ (h w' g h1 h2)
theorem wpList_mks2 (HK : Hid (Kn b0 w0 w L R)) (hgd : o.guard = none) (x y : Operand) (ho : o.op = .buildSlice N.tt 2 #[(0, x), (1, y)]) (hx : a.eval x = .slice A n c) (hy : a.eval y = .slice A2 n2 c2)
    (h : ∀ w' g, Hid (Kn b0 w0 w' (L ++ [(g, La.t, #[.slice A n c, .slice A2 n2 c2])]) R) → Hid (Below w.heap.size w w') → wpList P ops Q rest (a.put o.dst (.slice (some ⟨g, 0, none⟩) 2 2)) w') : wpList P ops Q (o :: rest) a w :=
  wpList_plain hgd fun _ hK => kwp_mks La N HK 2 _ ho [.slice A n c, .slice A2 n2 c2] (by simp [hx, hy]) (by simp [Value.cells]) rfl (by decide) (by decide) fun w' g h1 h2 => hK _ _ (h w' g h1 h2)
theorem wpList_mks3 (HK : Hid (Kn b0 w0 w L R)) (hgd : o.guard = none) (x y z : Operand) (ho : o.op = .buildSlice N.tt 3 #[(0, x), (1, y), (2, z)]) (hx : a.eval x = .slice A n c) (hy : a.eval y = .slice A2 n2 c2) (hz : a.eval z = .slice A3 n3 c3)
    (h : ∀ w' g, Hid (Kn b0 w0 w' (L ++ [(g, La.t, #[.slice A n c, .slice A2 n2 c2, .slice A3 n3 c3])]) R) → Hid (Below w.heap.size w w') → wpList P ops Q rest (a.put o.dst (.slice (some ⟨g, 0, none⟩) 3 3)) w') : wpList P ops Q (o :: rest) a w :=
  wpList_plain hgd fun _ hK => kwp_mks La N HK 3 _ ho [.slice A n c, .slice A2 n2 c2, .slice A3 n3 c3] (by simp [hx, hy, hz]) (by simp [Value.cells]) rfl (by decide) (by decide) fun w' g h1 h2 => hK _ _ (h w' g h1 h2)
theorem step_mks1 (HK : Hid (Kn b0 w0 w L R)) (hgd : o.guard = none) (x : Operand) (ho : o.op = .buildSlice N.tt 1 #[(0, x)]) (hx : a.eval x = .slice A n c)
    (h : ∀ w' g, Hid (Kn b0 w0 w' (L ++ [(g, La.t, #[.slice A n c])]) R) → Hid (Below w.heap.size w w') → K (a.put o.dst (.slice (some ⟨g, 0, none⟩) 1 1)) w') : if Region.wanted o (yielded ops a.tmps) = true then Oper.wp P o a w K Q else E := by
  rw [if_pos (by simp [Region.wanted, hgd])]
  exact kwp_mks La N HK 1 _ ho [.slice A n c] (by simp [hx]) (by simp [Value.cells]) rfl (by decide) (by decide) h
theorem step_mks2 (HK : Hid (Kn b0 w0 w L R)) (hgd : o.guard = none) (x y : Operand) (ho : o.op = .buildSlice N.tt 2 #[(0, x), (1, y)]) (hx : a.eval x = .slice A n c) (hy : a.eval y = .slice A2 n2 c2)
    (h : ∀ w' g, Hid (Kn b0 w0 w' (L ++ [(g, La.t, #[.slice A n c, .slice A2 n2 c2])]) R) → Hid (Below w.heap.size w w') → K (a.put o.dst (.slice (some ⟨g, 0, none⟩) 2 2)) w') : if Region.wanted o (yielded ops a.tmps) = true then Oper.wp P o a w K Q else E := by
  rw [if_pos (by simp [Region.wanted, hgd])]
  exact kwp_mks La N HK 2 _ ho [.slice A n c, .slice A2 n2 c2] (by simp [hx, hy]) (by simp [Value.cells]) rfl (by decide) (by decide) h
end
/-- A new slice told, of the call's own; and one with an error. -/
def IsLg {P : Program} {α : Type} (La : Lay P α) (r : List α) (w : World) (e : Ending) (w' : World) : Prop := ∃ A n c, e = .returned (.slice A n c) ∧ La.Own w.heap.size w' (.slice A n c) r ∧ Below w.heap.size w w'
def IsLEg {P : Program} {α : Type} (La : Lay P α) (r : List α) (x : Int) (w : World) (e : Ending) (w' : World) : Prop := ∃ A n c, e = .returned (.tuple #[.slice A n c, .int .i64 x]) ∧ La.Own w.heap.size w' (.slice A n c) r ∧ Below w.heap.size w w'
/-- What is told is new, or is a slice that was handed in. -/
def OwnOr {P : Program} {α : Type} (La : Lay P α) (b : Nat) (w : World) (A : Option Addr) (n c : Nat) (l : List α) (A' : Option Addr) (n' c' : Nat) (r : List α) : Prop := La.Own b w (.slice A' n' c') r ∨ (A' = A ∧ n' = n ∧ c' = c ∧ r = l)
theorem get_put {α : Type} {R : List α} {i : Nat} {y z : α} (h : R[i]? = some y) : (R ++ [z])[i]? = some y := by
  rw [List.getElem?_append_left (List.getElem?_eq_some_iff.1 h).1]; exact h
theorem get_last {α : Type} (R : List α) (z : α) : (R ++ [z])[R.length]? = some z := by simp
section
variable {P : Program} {α : Type} {La : Lay P α} {F : α → Prop} {b0 : Nat} {w0 w w' : World} {L : List (Nat × TypeId × Array Value)} {R : List RowE}
/-- In either way it is a row that is known. -/
theorem Kn.toldR {A A' : Option Addr} {n c n' c' : Nat} {l r : List α} (h : Kn b0 w0 w L R) (hb : Below w.heap.size w w') {i : Nat} (hi : R[i]? = some (row La (.slice A n c) l))
    (ho : OwnOr La w.heap.size w' A n c l A' n' c' r) : ∃ R' : List RowE, Hid (Kn b0 w0 w' L R') ∧ (∀ (j : Nat) (y : RowE), R[j]? = some y → R'[j]? = some y) ∧ ∃ j : Nat, R'[j]? = some (row La (.slice A' n' c') r) := by
  rcases ho with ho | ⟨rfl, rfl, rfl, rfl⟩
  · exact ⟨_, Lib.hid (h.called hb ho), fun j y hj => get_put hj, R.length, get_last _ _⟩
  · exact ⟨R, Lib.hid (h.call hb), fun j y hj => hj, i, hi⟩
/-- A piece: a slice, and what it reads as. -/
structure Pce (α : Type) where
  A : Option Addr
  n : Nat
  c : Nat
  l : List α
def catP {α : Type} (ps : List (Pce α)) : List α := ps.flatMap (·.l)
theorem catP_more {α : Type} {ps : List (Pce α)} {k : Nat} {p : Pce α} (h : ps[k]? = some p) : catP (ps.take (k + 1)) = catP (ps.take k) ++ p.l := by
  unfold catP
  rw [Lay.take_succ h, List.flatMap_append, List.flatMap_cons, List.flatMap_nil, List.append_nil]
theorem catP_le {α : Type} (ps : List (Pce α)) (k : Nat) : (catP (ps.take k)).length ≤ (catP ps).length := by
  have h : catP ps = catP (ps.take k) ++ catP (ps.drop k) := by unfold catP; rw [← List.flatMap_append, List.take_append_drop]
  rw [h, List.length_append]; omega
/-- What a function tells that puts pieces together. -/
def Joins (P : Program) (f : FuncId) (La : Lay P α) (F : α → Prop) : Prop := ∀ (g m : Nat) (ps : List (Pce α)) (w : World), ps.length = m → m ≤ 8 → g < w.heap.size → (∀ i p, ps[i]? = some p → w.cell? ⟨g, i, none⟩ = some (.slice p.A p.n p.c)) →
  (∀ p ∈ ps, Sls La F w p.A p.n p.c p.l) → (catP ps).length * La.bytes ≤ 140737488355328 → Calls P f #[.slice (some ⟨g, 0, none⟩) m m] w (IsLg La (catP ps) w)
variable {f : FuncId} {g : Nat} {A1 A2 A3 : Option Addr} {n1 c1 n2 c2 n3 c3 : Nat} {l1 l2 l3 : List α}
theorem Joins.one (J : Joins P f La F) (HK : Hid (Kn b0 w0 w L R)) (i : Nat) (hL : L[i]? = some (g, La.t, #[.slice A1 n1 c1])) (h1 : Sls La F w A1 n1 c1 l1) :
    Calls P f #[.slice (some ⟨g, 0, none⟩) 1 1] w (IsLg La l1 w) := by
  have h := J g 1 [⟨A1, n1, c1, l1⟩] w rfl (by decide) (HK.out.blk i hL).lt (fun j p hp => by
    match j, hp with
    | 0, hp => simp at hp; subst hp; exact HK.out.cell i hL 0 rfl) (fun p hp => by
      rw [List.mem_singleton] at hp; subst hp; exact h1) (by
      show (l1 ++ []).length * _ ≤ _
      rw [List.append_nil]; exact h1.fit.big)
  have e : catP [(⟨A1, n1, c1, l1⟩ : Pce α)] = l1 := by show l1 ++ [] = l1; rw [List.append_nil]
  rw [e] at h
  exact h
theorem Joins.two (J : Joins P f La F) (HK : Hid (Kn b0 w0 w L R)) (i : Nat) (hL : L[i]? = some (g, La.t, #[.slice A1 n1 c1, .slice A2 n2 c2])) (h1 : Sls La F w A1 n1 c1 l1) (h2 : Sls La F w A2 n2 c2 l2) (ht : (n1 + n2) * La.bytes ≤ 140737488355328) :
    Calls P f #[.slice (some ⟨g, 0, none⟩) 2 2] w (IsLg La (l1 ++ l2) w) := by
  have h := J g 2 [⟨A1, n1, c1, l1⟩, ⟨A2, n2, c2, l2⟩] w rfl (by decide) (HK.out.blk i hL).lt (fun j p hp => by
    match j, hp with
    | 0, hp => simp at hp; subst hp; exact HK.out.cell i hL 0 rfl
    | 1, hp => simp at hp; subst hp; exact HK.out.cell i hL 1 rfl) (fun p hp => by
      simp only [List.mem_cons, List.not_mem_nil, or_false] at hp
      rcases hp with rfl | rfl
      · exact h1
      · exact h2) (by
      show (l1 ++ (l2 ++ [])).length * _ ≤ _
      rw [List.append_nil, List.length_append, h1.len, h2.len]; exact ht)
  have e : catP [(⟨A1, n1, c1, l1⟩ : Pce α), ⟨A2, n2, c2, l2⟩] = l1 ++ l2 := by show l1 ++ (l2 ++ []) = _; rw [List.append_nil]
  rw [e] at h
  exact h
theorem Joins.three (J : Joins P f La F) (HK : Hid (Kn b0 w0 w L R)) (i : Nat) (hL : L[i]? = some (g, La.t, #[.slice A1 n1 c1, .slice A2 n2 c2, .slice A3 n3 c3])) (h1 : Sls La F w A1 n1 c1 l1) (h2 : Sls La F w A2 n2 c2 l2) (h3 : Sls La F w A3 n3 c3 l3) (ht : (n1 + n2 + n3) * La.bytes ≤ 140737488355328) :
    Calls P f #[.slice (some ⟨g, 0, none⟩) 3 3] w (IsLg La (l1 ++ l2 ++ l3) w) := by
  have h := J g 3 [⟨A1, n1, c1, l1⟩, ⟨A2, n2, c2, l2⟩, ⟨A3, n3, c3, l3⟩] w rfl (by decide) (HK.out.blk i hL).lt (fun j p hp => by
    match j, hp with
    | 0, hp => simp at hp; subst hp; exact HK.out.cell i hL 0 rfl
    | 1, hp => simp at hp; subst hp; exact HK.out.cell i hL 1 rfl
    | 2, hp => simp at hp; subst hp; exact HK.out.cell i hL 2 rfl) (fun p hp => by
      simp only [List.mem_cons, List.not_mem_nil, or_false] at hp
      rcases hp with rfl | rfl | rfl
      · exact h1
      · exact h2
      · exact h3) (by
      show (l1 ++ (l2 ++ (l3 ++ []))).length * _ ≤ _
      rw [List.append_nil, List.length_append, List.length_append, h1.len, h2.len, h3.len, ← Nat.add_assoc]; exact ht)
  have e : catP [(⟨A1, n1, c1, l1⟩ : Pce α), ⟨A2, n2, c2, l2⟩, ⟨A3, n3, c3, l3⟩] = l1 ++ l2 ++ l3 := by show l1 ++ (l2 ++ (l3 ++ [])) = _; rw [List.append_nil, List.append_assoc]
  rw [e] at h
  exact h
/-- Two lists of as many things are one, or there is a place where they differ. -/
theorem same_at {α : Type} [DecidableEq α] {a b : List α} {n : Nat} (ha : a.length = n) (hb : b.length = n) : (∀ i x y, i < n → a[i]? = some x → b[i]? = some y → ¬ x = y → decide (a = b) = false) ∧ ((∀ i, i < n → a[i]? = b[i]?) → decide (a = b) = true) := by
  refine ⟨fun i x y hi hx hy hne => decide_eq_false fun h => ?_, fun h => decide_eq_true (List.ext_getElem? fun i => ?_)⟩
  · subst h
    rw [hx] at hy
    injection hy with hy
    exact hne hy
  · by_cases hi : i < n
    · exact h i hi
    · rw [List.getElem?_eq_none (by omega), List.getElem?_eq_none (by omega)]
/-- What an append of such things may be. -/
theorem grow_ok {l m : List α} {N : Nat} (h : Hid ((l ++ m).length = N)) (hB : N * La.bytes ≤ 211106232532992) (hN : N ≤ 9223372036854775807) : Hid (l.length + m.length ≤ 9223372036854775807 ∧ (l.length + m.length) * La.bytes ≤ 211106232532992) := by
  have e := h.out
  rw [List.length_append] at e
  exact Lib.hid ⟨by rw [e]; exact hN, by rw [e]; exact hB⟩
end
end Go.Proofs.Ytfganmbjaglmiaa
