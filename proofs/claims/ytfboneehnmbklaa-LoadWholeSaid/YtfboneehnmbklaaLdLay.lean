/-
  How pieces and loads lie: blocks that hold one, loads and stores of one, of its fields; made ones; rows of bools and of texts; ways out.
  No condition but those named.
-/
import Derived.Test.YtfboneehnmbklaaLdMath
import Derived.Test.YtfboneehnmbklaaSlm
import Derived.Test.YtfboneehnmbklaaExn
import Derived.Test.YtfboneehnmbklaaStoPut
import Derived.Test.YtfboneehnmbklaaKnJoin
import Derived.Test.YtfboneehnmbklaaOpensT
import Derived.Laws.MakeOwn
import Derived.OpenShut
import Derived.KernelRfl
set_option linter.unusedSimpArgs false
set_option linter.unusedVariables false
set_option maxRecDepth 100000
namespace Go.Proofs.Ytfboneehnmbklaa
open Go.ChangeShapes Go.WideShapes Go.Deep Go.RowKit

def pcC (n a t : Int) (s : Nat) (d : ByteArray) : Array Value := #[.int .i64 n, .int .i64 a, .int .i64 t, .int .u32 (s : Int), .string d]
def ldC (n t : Int) (s : Nat) (H D : Value) : Array Value := #[.int .i64 n, .int .i64 t, .int .u32 (s : Int), H, D]
theorem info_pcz : (Try.prog.info? 24).map (fun i => (i.zero, i.size, i.bytes)) = some (some (Value.agg (pcC 0 0 0 0 ⟨#[]⟩)), 5, 48) := by kernel_rfl
theorem info_ldz : (Try.prog.info? 35).map (fun i => (i.zero, i.size, i.bytes)) = some (some (Value.agg (ldC 0 0 0 (.slice none 0 0) (.slice none 0 0))), 5, 72) := by kernel_rfl
theorem info_pc : (Try.prog.info? 24).map (·.size) = some 5 := by kernel_rfl
theorem info_ld : (Try.prog.info? 35).map (·.size) = some 5 := by kernel_rfl
theorem info_fld (t : TypeId) (h : t = 3 ∨ t = 22 ∨ t = 32 ∨ t = 33) : (Try.prog.info? t).map (·.size) = some 1 := by
  rcases h with rfl | rfl | rfl | rfl <;> kernel_rfl
/-- Rows of bools, of texts. -/
theorem info_b : (Try.prog.info? 4).map (fun i => (i.zero, i.size, i.bytes)) = some (some (Value.bool false), 1, 1) := by kernel_rfl
theorem info_s : (Try.prog.info? 9).map (fun i => (i.zero, i.size, i.bytes)) = some (some (Value.string ⟨#[]⟩), 1, 16) := by kernel_rfl
def bLay : Lay Try.prog Bool where
  t := 32
  e := 4
  k := 1
  bytes := 1
  z := .bool false
  f := fun x => [.bool x]
  len := fun _ => rfl
  one := fun x u hu => by
    simp only [List.mem_cons, List.not_mem_nil, or_false] at hu
    rcases hu with rfl
    rfl
  und := Try.underlying32
  info := info_b
  zs := rfl
  pos := by decide
  small := by decide
def sLay : Lay Try.prog ByteArray where
  t := 33
  e := 9
  k := 1
  bytes := 16
  z := .string ⟨#[]⟩
  f := fun x => [.string x]
  len := fun _ => rfl
  one := fun x u hu => by
    simp only [List.mem_cons, List.not_mem_nil, or_false] at hu
    rcases hu with rfl
    rfl
  und := Try.underlying33
  info := info_s
  zs := rfl
  pos := by decide
  small := by decide
def bF (_ : Bool) : Prop := True
def sF (x : ByteArray) : Prop := x.size ≤ 140737488351232
section
variable {b0 : Nat} {w0 w : World} {L : List (Nat × TypeId × Array Value)} {R : List RowE} {ops : Array Oper} {rest : List Oper} {o : Oper} {a : Act} {Q : Exit → Act → World → Prop} {K : Act → World → Prop} {E : Prop} {g : Nat}
variable {n t n2 t2 c c2 : Int} {s s2 : Nat} {d d2 : ByteArray} {H D H2 D2 : Value}
/-- A thing's block made. -/
theorem lrun_made {P : Program} {e : TypeId} {z : Value} {k b : Nat} (hi : (P.info? e).map (fun i => (i.zero, i.size, i.bytes)) = some (some z, k, b)) (w : World) : (Instr.alloc e true (.tuple #[])).run P w = .ok (.pointer (some ⟨w.heap.size, 0, none⟩)) (w.alloc (.cells z.cells e)) := by
  obtain ⟨i0, hi, hz0, hz1, hz2⟩ := info_parts hi
  simp [Instr.alloc, zeroValue, typeInfo, hi, hz0, newVar, newRow]
theorem lkwp_made {e : TypeId} {z : Value} {k b : Nat} (hi : (Try.prog.info? e).map (fun i => (i.zero, i.size, i.bytes)) = some (some z, k, b)) (HK : Hid (Kn b0 w0 w L R)) (ho : o.op = .alloc e)
    (h : ∀ w' g, Hid (Kn b0 w0 w' (L ++ [(g, e, z.cells)]) R) → Hid (Below w.heap.size w w') → K (a.put o.dst (.pointer (some ⟨g, 0, none⟩))) w') : o.wp Try.prog a w K Q := by
  have h4 := h _ w.heap.size (Lib.hid (HK.out.alloc e z.cells)) (Lib.hid ((Below.refl _ w).alloc (Nat.le_refl _) _))
  unfold Oper.wp execOp
  simp only [ho, Sem.run_bind, Sem.run_pure, lrun_made hi, Result.andThen_ok]
  exact h4
theorem wpList_akl (HK : Hid (Kn b0 w0 w L R)) (hgd : o.guard = none) (ho : o.op = .alloc 35)
    (h : ∀ w' g, Hid (Kn b0 w0 w' (L ++ [(g, 35, ldC 0 0 0 (.slice none 0 0) (.slice none 0 0))]) R) → wpList Try.prog ops Q rest (a.put o.dst (.pointer (some ⟨g, 0, none⟩))) w') : wpList Try.prog ops Q (o :: rest) a w :=
  wpList_plain hgd fun _ hK => lkwp_made info_ldz HK ho fun w' g h1 _ => hK _ _ (h w' g h1)
theorem step_akl (HK : Hid (Kn b0 w0 w L R)) (hgd : o.guard = none) (ho : o.op = .alloc 35)
    (h : ∀ w' g, Hid (Kn b0 w0 w' (L ++ [(g, 35, ldC 0 0 0 (.slice none 0 0) (.slice none 0 0))]) R) → Hid (Below w.heap.size w w') → K (a.put o.dst (.pointer (some ⟨g, 0, none⟩))) w') : if Region.wanted o (yielded ops a.tmps) = true then Oper.wp Try.prog o a w K Q else E := by
  rw [if_pos (by simp [Region.wanted, hgd])]
  exact lkwp_made info_ldz HK ho h
theorem wpList_akp (HK : Hid (Kn b0 w0 w L R)) (hgd : o.guard = none) (ho : o.op = .alloc 24)
    (h : ∀ w' g, Hid (Kn b0 w0 w' (L ++ [(g, 24, pcC 0 0 0 0 ⟨#[]⟩)]) R) → wpList Try.prog ops Q rest (a.put o.dst (.pointer (some ⟨g, 0, none⟩))) w') : wpList Try.prog ops Q (o :: rest) a w :=
  wpList_plain hgd fun _ hK => lkwp_made info_pcz HK ho fun w' g h1 _ => hK _ _ (h w' g h1)
theorem step_akp (HK : Hid (Kn b0 w0 w L R)) (hgd : o.guard = none) (ho : o.op = .alloc 24)
    (h : ∀ w' g, Hid (Kn b0 w0 w' (L ++ [(g, 24, pcC 0 0 0 0 ⟨#[]⟩)]) R) → Hid (Below w.heap.size w w') → K (a.put o.dst (.pointer (some ⟨g, 0, none⟩))) w') : if Region.wanted o (yielded ops a.tmps) = true then Oper.wp Try.prog o a w K Q else E := by
  rw [if_pos (by simp [Region.wanted, hgd])]
  exact lkwp_made info_pcz HK ho h
theorem kwp_sl (HK : Hid (Kn b0 w0 w L R)) (i : Nat) (p q : Operand) (ho : o.op = .store 35 p q) (hL : L[i]? = some (g, 35, ldC n t s H D)) (hx : a.eval p = .pointer (some ⟨g, 0, none⟩)) (hy : a.eval q = .agg #[.int .i64 n2, .int .i64 t2, .int .u32 (s2 : Int), H2, D2]) (h1 : H2.oneCell' = true) (h2 : D2.oneCell' = true)
    (h : ∀ w', Hid (Kn b0 w0 w' (L.set i (g, 35, ldC n2 t2 s2 H2 D2)) R) → K (a.put o.dst undef) w') : o.wp Try.prog a w K Q :=
  kwp_ss HK _ p q ho i hL hx hy (by show 5 ≤ 5; decide) info_ld (by simp only [List.all_toArray, List.all_cons, List.all_nil, h1, h2, Bool.and_true]; rfl) fun w' h1 _ => h w' (by
    have e : putCells (ldC n t s H D) 0 (#[Value.int .i64 n2, .int .i64 t2, .int .u32 (s2 : Int), H2, D2] : Array Value).toList = ldC n2 t2 s2 H2 D2 := by
      show putCells (ldC n t s H D) 0 (ldC n2 t2 s2 H2 D2).toList = ldC n2 t2 s2 H2 D2
      rw [putCells_all (vs := (ldC n2 t2 s2 H2 D2).toList) (cs := ldC n t s H D) rfl, Array.toArray_toList]
    rw [e] at h1
    exact h1)
theorem wpList_sl (HK : Hid (Kn b0 w0 w L R)) (i : Nat) (hgd : o.guard = none) (p q : Operand) (ho : o.op = .store 35 p q) (hL : L[i]? = some (g, 35, ldC n t s H D)) (hx : a.eval p = .pointer (some ⟨g, 0, none⟩)) (hy : a.eval q = .agg #[.int .i64 n2, .int .i64 t2, .int .u32 (s2 : Int), H2, D2]) (h1 : H2.oneCell' = true) (h2 : D2.oneCell' = true)
    (h : ∀ w', Hid (Kn b0 w0 w' (L.set i (g, 35, ldC n2 t2 s2 H2 D2)) R) → wpList Try.prog ops Q rest (a.put o.dst undef) w') : wpList Try.prog ops Q (o :: rest) a w :=
  wpList_plain hgd fun _ hK => kwp_sl HK i p q ho hL hx hy h1 h2 fun w' h1 => hK _ _ (h w' h1)
theorem step_sl (HK : Hid (Kn b0 w0 w L R)) (i : Nat) (hgd : o.guard = none) (p q : Operand) (ho : o.op = .store 35 p q) (hL : L[i]? = some (g, 35, ldC n t s H D)) (hx : a.eval p = .pointer (some ⟨g, 0, none⟩)) (hy : a.eval q = .agg #[.int .i64 n2, .int .i64 t2, .int .u32 (s2 : Int), H2, D2]) (h1 : H2.oneCell' = true) (h2 : D2.oneCell' = true)
    (h : ∀ w', Hid (Kn b0 w0 w' (L.set i (g, 35, ldC n2 t2 s2 H2 D2)) R) → K (a.put o.dst undef) w') : if Region.wanted o (yielded ops a.tmps) = true then Oper.wp Try.prog o a w K Q else E := by
  rw [if_pos (by simp [Region.wanted, hgd])]
  exact kwp_sl HK i p q ho hL hx hy h1 h2 h
theorem kwp_sp (HK : Hid (Kn b0 w0 w L R)) (i : Nat) (p q : Operand) (ho : o.op = .store 24 p q) (hL : L[i]? = some (g, 24, pcC n c t s d)) (hx : a.eval p = .pointer (some ⟨g, 0, none⟩)) (hy : a.eval q = .agg #[.int .i64 n2, .int .i64 c2, .int .i64 t2, .int .u32 (s2 : Int), .string d2])
    (h : ∀ w', Hid (Kn b0 w0 w' (L.set i (g, 24, pcC n2 c2 t2 s2 d2)) R) → K (a.put o.dst undef) w') : o.wp Try.prog a w K Q :=
  kwp_ss HK _ p q ho i hL hx hy (by show 5 ≤ 5; decide) info_pc (by simp only [List.all_toArray, List.all_cons, List.all_nil, Bool.and_true]; rfl) fun w' h1 _ => h w' (by
    have e : putCells (pcC n c t s d) 0 (#[Value.int .i64 n2, .int .i64 c2, .int .i64 t2, .int .u32 (s2 : Int), .string d2] : Array Value).toList = pcC n2 c2 t2 s2 d2 := by
      show putCells (pcC n c t s d) 0 (pcC n2 c2 t2 s2 d2).toList = pcC n2 c2 t2 s2 d2
      rw [putCells_all (vs := (pcC n2 c2 t2 s2 d2).toList) (cs := pcC n c t s d) rfl, Array.toArray_toList]
    rw [e] at h1
    exact h1)
theorem wpList_sp (HK : Hid (Kn b0 w0 w L R)) (i : Nat) (hgd : o.guard = none) (p q : Operand) (ho : o.op = .store 24 p q) (hL : L[i]? = some (g, 24, pcC n c t s d)) (hx : a.eval p = .pointer (some ⟨g, 0, none⟩)) (hy : a.eval q = .agg #[.int .i64 n2, .int .i64 c2, .int .i64 t2, .int .u32 (s2 : Int), .string d2])
    (h : ∀ w', Hid (Kn b0 w0 w' (L.set i (g, 24, pcC n2 c2 t2 s2 d2)) R) → wpList Try.prog ops Q rest (a.put o.dst undef) w') : wpList Try.prog ops Q (o :: rest) a w :=
  wpList_plain hgd fun _ hK => kwp_sp HK i p q ho hL hx hy fun w' h1 => hK _ _ (h w' h1)
theorem step_sp (HK : Hid (Kn b0 w0 w L R)) (i : Nat) (hgd : o.guard = none) (p q : Operand) (ho : o.op = .store 24 p q) (hL : L[i]? = some (g, 24, pcC n c t s d)) (hx : a.eval p = .pointer (some ⟨g, 0, none⟩)) (hy : a.eval q = .agg #[.int .i64 n2, .int .i64 c2, .int .i64 t2, .int .u32 (s2 : Int), .string d2])
    (h : ∀ w', Hid (Kn b0 w0 w' (L.set i (g, 24, pcC n2 c2 t2 s2 d2)) R) → K (a.put o.dst undef) w') : if Region.wanted o (yielded ops a.tmps) = true then Oper.wp Try.prog o a w K Q else E := by
  rw [if_pos (by simp [Region.wanted, hgd])]
  exact kwp_sp HK i p q ho hL hx hy h
variable {A : Option Addr} {m k : Nat}
theorem kwp_slt (HK : Hid (Kn b0 w0 w L R)) (i : Nat) (p q : Operand) (ho : o.op = .store 3 p q) (hL : L[i]? = some (g, 35, ldC n t s H D)) (hx : a.eval p = .pointer (some ⟨g, 1, none⟩)) (hy : a.eval q = .int .i64 t2)
    (h : ∀ w', Hid (Kn b0 w0 w' (L.set i (g, 35, ldC n t2 s H D)) R) → K (a.put o.dst undef) w') : o.wp Try.prog a w K Q :=
  kwp_sc HK _ p q ho i hL hx hy (rfl) (rfl) (by show 1 < 5; decide) (info_fld _ (by simp)) fun w' h1 _ => h w' h1
theorem wpList_slt (HK : Hid (Kn b0 w0 w L R)) (i : Nat) (hgd : o.guard = none) (p q : Operand) (ho : o.op = .store 3 p q) (hL : L[i]? = some (g, 35, ldC n t s H D)) (hx : a.eval p = .pointer (some ⟨g, 1, none⟩)) (hy : a.eval q = .int .i64 t2)
    (h : ∀ w', Hid (Kn b0 w0 w' (L.set i (g, 35, ldC n t2 s H D)) R) → wpList Try.prog ops Q rest (a.put o.dst undef) w') : wpList Try.prog ops Q (o :: rest) a w :=
  wpList_plain hgd fun _ hK => kwp_slt HK i p q ho hL hx hy fun w' h1 => hK _ _ (h w' h1)
theorem step_slt (HK : Hid (Kn b0 w0 w L R)) (i : Nat) (hgd : o.guard = none) (p q : Operand) (ho : o.op = .store 3 p q) (hL : L[i]? = some (g, 35, ldC n t s H D)) (hx : a.eval p = .pointer (some ⟨g, 1, none⟩)) (hy : a.eval q = .int .i64 t2)
    (h : ∀ w', Hid (Kn b0 w0 w' (L.set i (g, 35, ldC n t2 s H D)) R) → K (a.put o.dst undef) w') : if Region.wanted o (yielded ops a.tmps) = true then Oper.wp Try.prog o a w K Q else E := by
  rw [if_pos (by simp [Region.wanted, hgd])]
  exact kwp_slt HK i p q ho hL hx hy h
theorem kwp_sls (HK : Hid (Kn b0 w0 w L R)) (i : Nat) (p q : Operand) (ho : o.op = .store 22 p q) (hL : L[i]? = some (g, 35, ldC n t s H D)) (hx : a.eval p = .pointer (some ⟨g, 2, none⟩)) (hy : a.eval q = .int .u32 (s2 : Int))
    (h : ∀ w', Hid (Kn b0 w0 w' (L.set i (g, 35, ldC n t s2 H D)) R) → K (a.put o.dst undef) w') : o.wp Try.prog a w K Q :=
  kwp_sc HK _ p q ho i hL hx hy (rfl) (rfl) (by show 2 < 5; decide) (info_fld _ (by simp)) fun w' h1 _ => h w' h1
theorem wpList_sls (HK : Hid (Kn b0 w0 w L R)) (i : Nat) (hgd : o.guard = none) (p q : Operand) (ho : o.op = .store 22 p q) (hL : L[i]? = some (g, 35, ldC n t s H D)) (hx : a.eval p = .pointer (some ⟨g, 2, none⟩)) (hy : a.eval q = .int .u32 (s2 : Int))
    (h : ∀ w', Hid (Kn b0 w0 w' (L.set i (g, 35, ldC n t s2 H D)) R) → wpList Try.prog ops Q rest (a.put o.dst undef) w') : wpList Try.prog ops Q (o :: rest) a w :=
  wpList_plain hgd fun _ hK => kwp_sls HK i p q ho hL hx hy fun w' h1 => hK _ _ (h w' h1)
theorem step_sls (HK : Hid (Kn b0 w0 w L R)) (i : Nat) (hgd : o.guard = none) (p q : Operand) (ho : o.op = .store 22 p q) (hL : L[i]? = some (g, 35, ldC n t s H D)) (hx : a.eval p = .pointer (some ⟨g, 2, none⟩)) (hy : a.eval q = .int .u32 (s2 : Int))
    (h : ∀ w', Hid (Kn b0 w0 w' (L.set i (g, 35, ldC n t s2 H D)) R) → K (a.put o.dst undef) w') : if Region.wanted o (yielded ops a.tmps) = true then Oper.wp Try.prog o a w K Q else E := by
  rw [if_pos (by simp [Region.wanted, hgd])]
  exact kwp_sls HK i p q ho hL hx hy h
theorem kwp_slh (HK : Hid (Kn b0 w0 w L R)) (i : Nat) (p q : Operand) (ho : o.op = .store 32 p q) (hL : L[i]? = some (g, 35, ldC n t s H D)) (hx : a.eval p = .pointer (some ⟨g, 3, none⟩)) (hy : a.eval q = .slice A m k)
    (h : ∀ w', Hid (Kn b0 w0 w' (L.set i (g, 35, ldC n t s (.slice A m k) D)) R) → K (a.put o.dst undef) w') : o.wp Try.prog a w K Q :=
  kwp_sc HK _ p q ho i hL hx hy (rfl) (rfl) (by show 3 < 5; decide) (info_fld _ (by simp)) fun w' h1 _ => h w' h1
theorem wpList_slh (HK : Hid (Kn b0 w0 w L R)) (i : Nat) (hgd : o.guard = none) (p q : Operand) (ho : o.op = .store 32 p q) (hL : L[i]? = some (g, 35, ldC n t s H D)) (hx : a.eval p = .pointer (some ⟨g, 3, none⟩)) (hy : a.eval q = .slice A m k)
    (h : ∀ w', Hid (Kn b0 w0 w' (L.set i (g, 35, ldC n t s (.slice A m k) D)) R) → wpList Try.prog ops Q rest (a.put o.dst undef) w') : wpList Try.prog ops Q (o :: rest) a w :=
  wpList_plain hgd fun _ hK => kwp_slh HK i p q ho hL hx hy fun w' h1 => hK _ _ (h w' h1)
theorem step_slh (HK : Hid (Kn b0 w0 w L R)) (i : Nat) (hgd : o.guard = none) (p q : Operand) (ho : o.op = .store 32 p q) (hL : L[i]? = some (g, 35, ldC n t s H D)) (hx : a.eval p = .pointer (some ⟨g, 3, none⟩)) (hy : a.eval q = .slice A m k)
    (h : ∀ w', Hid (Kn b0 w0 w' (L.set i (g, 35, ldC n t s (.slice A m k) D)) R) → K (a.put o.dst undef) w') : if Region.wanted o (yielded ops a.tmps) = true then Oper.wp Try.prog o a w K Q else E := by
  rw [if_pos (by simp [Region.wanted, hgd])]
  exact kwp_slh HK i p q ho hL hx hy h
theorem kwp_sld (HK : Hid (Kn b0 w0 w L R)) (i : Nat) (p q : Operand) (ho : o.op = .store 33 p q) (hL : L[i]? = some (g, 35, ldC n t s H D)) (hx : a.eval p = .pointer (some ⟨g, 4, none⟩)) (hy : a.eval q = .slice A m k)
    (h : ∀ w', Hid (Kn b0 w0 w' (L.set i (g, 35, ldC n t s H (.slice A m k))) R) → K (a.put o.dst undef) w') : o.wp Try.prog a w K Q :=
  kwp_sc HK _ p q ho i hL hx hy (rfl) (rfl) (by show 4 < 5; decide) (info_fld _ (by simp)) fun w' h1 _ => h w' h1
theorem wpList_sld (HK : Hid (Kn b0 w0 w L R)) (i : Nat) (hgd : o.guard = none) (p q : Operand) (ho : o.op = .store 33 p q) (hL : L[i]? = some (g, 35, ldC n t s H D)) (hx : a.eval p = .pointer (some ⟨g, 4, none⟩)) (hy : a.eval q = .slice A m k)
    (h : ∀ w', Hid (Kn b0 w0 w' (L.set i (g, 35, ldC n t s H (.slice A m k))) R) → wpList Try.prog ops Q rest (a.put o.dst undef) w') : wpList Try.prog ops Q (o :: rest) a w :=
  wpList_plain hgd fun _ hK => kwp_sld HK i p q ho hL hx hy fun w' h1 => hK _ _ (h w' h1)
theorem step_sld (HK : Hid (Kn b0 w0 w L R)) (i : Nat) (hgd : o.guard = none) (p q : Operand) (ho : o.op = .store 33 p q) (hL : L[i]? = some (g, 35, ldC n t s H D)) (hx : a.eval p = .pointer (some ⟨g, 4, none⟩)) (hy : a.eval q = .slice A m k)
    (h : ∀ w', Hid (Kn b0 w0 w' (L.set i (g, 35, ldC n t s H (.slice A m k))) R) → K (a.put o.dst undef) w') : if Region.wanted o (yielded ops a.tmps) = true then Oper.wp Try.prog o a w K Q else E := by
  rw [if_pos (by simp [Region.wanted, hgd])]
  exact kwp_sld HK i p q ho hL hx hy h
theorem kl_l (HK : Hid (Kn b0 w0 w L R)) (i : Nat) (x : Operand) (ho : o.op = .load 35 x) (hL : L[i]? = some (g, 35, ldC n t s H D)) (hx : a.eval x = .pointer (some ⟨g, 0, none⟩)) :
    (execOp a.eval o).run Try.prog w = .ok (.value (.agg #[.int .i64 n, .int .i64 t, .int .u32 (s : Int), H, D])) w :=
  kexec_ls HK _ x ho i hL hx (ldC n t s H D) (fun j _ => by rw [Nat.zero_add]) Try.underlying35 info_ld
theorem kp_p (HK : Hid (Kn b0 w0 w L R)) (i : Nat) (x : Operand) (ho : o.op = .load 24 x) (hL : L[i]? = some (g, 24, pcC n c t s d)) (hx : a.eval x = .pointer (some ⟨g, 0, none⟩)) :
    (execOp a.eval o).run Try.prog w = .ok (.value (.agg #[.int .i64 n, .int .i64 c, .int .i64 t, .int .u32 (s : Int), .string d])) w :=
  kexec_ls HK _ x ho i hL hx (pcC n c t s d) (fun j _ => by rw [Nat.zero_add]) Try.underlying24 info_pc
theorem kl_n_ (HK : Hid (Kn b0 w0 w L R)) (i : Nat) (x : Operand) (ho : o.op = .load 3 x) (hL : L[i]? = some (g, 35, ldC n t s H D)) (hx : a.eval x = .pointer (some ⟨g, 0, none⟩)) :
    (execOp a.eval o).run Try.prog w = .ok (.value (.int .i64 n)) w :=
  kexec_lc HK 3 x ho i hL hx (v := .int .i64 n) rfl Try.underlying3 rfl
theorem kl_t_ (HK : Hid (Kn b0 w0 w L R)) (i : Nat) (x : Operand) (ho : o.op = .load 3 x) (hL : L[i]? = some (g, 35, ldC n t s H D)) (hx : a.eval x = .pointer (some ⟨g, 1, none⟩)) :
    (execOp a.eval o).run Try.prog w = .ok (.value (.int .i64 t)) w :=
  kexec_lc HK 3 x ho i hL hx (v := .int .i64 t) rfl Try.underlying3 rfl
theorem kl_s_ (HK : Hid (Kn b0 w0 w L R)) (i : Nat) (x : Operand) (ho : o.op = .load 22 x) (hL : L[i]? = some (g, 35, ldC n t s H D)) (hx : a.eval x = .pointer (some ⟨g, 2, none⟩)) :
    (execOp a.eval o).run Try.prog w = .ok (.value (.int .u32 (s : Int))) w :=
  kexec_lc HK 22 x ho i hL hx (v := .int .u32 (s : Int)) rfl Try.underlying22 rfl
theorem kl_h_ (HK : Hid (Kn b0 w0 w L R)) (i : Nat) (x : Operand) (ho : o.op = .load 32 x) (hL : L[i]? = some (g, 35, ldC n t s H D)) (hx : a.eval x = .pointer (some ⟨g, 3, none⟩)) :
    (execOp a.eval o).run Try.prog w = .ok (.value (H)) w :=
  kexec_lc HK 32 x ho i hL hx (v := H) rfl Try.underlying32 rfl
theorem kl_d_ (HK : Hid (Kn b0 w0 w L R)) (i : Nat) (x : Operand) (ho : o.op = .load 33 x) (hL : L[i]? = some (g, 35, ldC n t s H D)) (hx : a.eval x = .pointer (some ⟨g, 4, none⟩)) :
    (execOp a.eval o).run Try.prog w = .ok (.value (D)) w :=
  kexec_lc HK 33 x ho i hL hx (v := D) rfl Try.underlying33 rfl
theorem kp_n_ (HK : Hid (Kn b0 w0 w L R)) (i : Nat) (x : Operand) (ho : o.op = .load 3 x) (hL : L[i]? = some (g, 24, pcC n c t s d)) (hx : a.eval x = .pointer (some ⟨g, 0, none⟩)) :
    (execOp a.eval o).run Try.prog w = .ok (.value (.int .i64 n)) w :=
  kexec_lc HK 3 x ho i hL hx (v := .int .i64 n) rfl Try.underlying3 rfl
theorem kp_a_ (HK : Hid (Kn b0 w0 w L R)) (i : Nat) (x : Operand) (ho : o.op = .load 3 x) (hL : L[i]? = some (g, 24, pcC n c t s d)) (hx : a.eval x = .pointer (some ⟨g, 1, none⟩)) :
    (execOp a.eval o).run Try.prog w = .ok (.value (.int .i64 c)) w :=
  kexec_lc HK 3 x ho i hL hx (v := .int .i64 c) rfl Try.underlying3 rfl
theorem kp_t_ (HK : Hid (Kn b0 w0 w L R)) (i : Nat) (x : Operand) (ho : o.op = .load 3 x) (hL : L[i]? = some (g, 24, pcC n c t s d)) (hx : a.eval x = .pointer (some ⟨g, 2, none⟩)) :
    (execOp a.eval o).run Try.prog w = .ok (.value (.int .i64 t)) w :=
  kexec_lc HK 3 x ho i hL hx (v := .int .i64 t) rfl Try.underlying3 rfl
theorem kp_s_ (HK : Hid (Kn b0 w0 w L R)) (i : Nat) (x : Operand) (ho : o.op = .load 22 x) (hL : L[i]? = some (g, 24, pcC n c t s d)) (hx : a.eval x = .pointer (some ⟨g, 3, none⟩)) :
    (execOp a.eval o).run Try.prog w = .ok (.value (.int .u32 (s : Int))) w :=
  kexec_lc HK 22 x ho i hL hx (v := .int .u32 (s : Int)) rfl Try.underlying22 rfl
theorem kp_d_ (HK : Hid (Kn b0 w0 w L R)) (i : Nat) (x : Operand) (ho : o.op = .load 9 x) (hL : L[i]? = some (g, 24, pcC n c t s d)) (hx : a.eval x = .pointer (some ⟨g, 4, none⟩)) :
    (execOp a.eval o).run Try.prog w = .ok (.value (.string d)) w :=
  kexec_lc HK 9 x ho i hL hx (v := .string d) rfl Try.underlying9 rfl
theorem exec_ixb {b off n c i : Nat} (x q : Operand) (ho : o.op = .indexAddr 32 x q) (hx : a.eval x = .slice (some ⟨b, off, none⟩) n c) (hq : a.eval q = .int .i64 (i : Int)) (h : i < n) :
    (execOp a.eval o).run Try.prog w = .ok (.value (.pointer (some ⟨b, off + i, none⟩))) w := by
  have h1 := exec_slx (w := w) bLay x q ho hx hq h
  have e : off + i * bLay.k = off + i := by show off + i * 1 = _; rw [Nat.mul_one]
  rw [e] at h1
  exact h1
theorem exec_lcb {b off : Nat} {x : Bool} (p : Operand) (ho : o.op = .load 4 p) (hx : a.eval p = .pointer (some ⟨b, off, none⟩)) (hc : w.cell? ⟨b, off, none⟩ = some (.bool x)) :
    (execOp a.eval o).run Try.prog w = .ok (.value (.bool x)) w :=
  exec_cell p ho hx hc Try.underlying4 rfl
theorem kwp_ptb (HK : Hid (Kn b0 w0 w L R)) (j : Nat) (x y : Operand) (ho : o.op = .store 4 x y) {g n c : Nat} {l : List Bool} (hR : R[j]? = some (row bLay (.slice (some ⟨g, 0, none⟩) n c) l)) (i : Nat) (hi : i < l.length)
    (hx : a.eval x = .pointer (some ⟨g, i, none⟩)) (p : Bool) (hy : a.eval y = .bool p)
    (h : ∀ w', Hid (Kn b0 w0 w' L (R.set j (row bLay (.slice (some ⟨g, 0, none⟩) n c) (l.set i p)))) → K (a.put o.dst undef) w') : o.wp Try.prog a w K Q := by
  have hk := HK.out.putR hR i hi p
  have hown := HK.out.own j hR
  have e1 : i * bLay.k = i := Nat.mul_one i
  rw [e1] at hk
  have hcell : ∃ cur, Blk w g 4 cur ∧ i < cur.size := by
    rcases hown.2 with ⟨h1, _⟩ | ⟨g', cap, cur, h1, hb, hg, hnc, hcm, hs, ht⟩
    · cases h1
    · injection h1 with e1 e2 e3
      injection e1 with e1
      injection e1 with e1
      subst e1
      have hs' : cur.size = cap * 1 := hs
      exact ⟨cur, hg, by omega⟩
  obtain ⟨cur, hb, hsz⟩ := hcell
  have hs := run_storeCells_cells (P := Try.prog) g i [.bool p] 0 w (fun j hj => by
      have : j = 0 := by simpa using hj
      subst this
      rw [hb.cell, Array.getElem?_eq_getElem (by omega)]; rfl) (fun j _ => hb.frozen _) (fun u hu => by simp at hu; subst hu; rfl)
  simp only [Nat.add_zero] at hs
  have hi1 : (Try.prog.info? 4).map (·.size) = some 1 := by kernel_rfl
  have hr : (storeVar 4 ⟨g, i, none⟩ (.bool p)).run Try.prog w = .ok () (w.setCells g i [.bool p]) := by
    cases hq : Try.prog.info? 4 with
    | none => simp [hq] at hi1
    | some q =>
      have hs1 : q.size = 1 := by simpa [hq] using hi1
      simp [storeVar, sizeOf, typeInfo, hq, Value.cells, hs1, hs]
  unfold Oper.wp execOp
  simp only [ho, hx, hy, Instr.storeAt, Instr.sureAddr, Sem.run_bind, Sem.run_pure, Result.andThen_ok, hr]
  exact h _ (Lib.hid hk)
theorem wpList_ptb (HK : Hid (Kn b0 w0 w L R)) (j : Nat) (hgd : o.guard = none) (x y : Operand) (ho : o.op = .store 4 x y) {g n c : Nat} {l : List Bool} (hR : R[j]? = some (row bLay (.slice (some ⟨g, 0, none⟩) n c) l)) (i : Nat) (hi : i < l.length)
    (hx : a.eval x = .pointer (some ⟨g, i, none⟩)) (p : Bool) (hy : a.eval y = .bool p)
    (h : ∀ w', Hid (Kn b0 w0 w' L (R.set j (row bLay (.slice (some ⟨g, 0, none⟩) n c) (l.set i p)))) → wpList Try.prog ops Q rest (a.put o.dst undef) w') : wpList Try.prog ops Q (o :: rest) a w :=
  wpList_plain hgd fun _ hK => kwp_ptb HK j x y ho hR i hi hx p hy fun w' h1 => hK _ _ (h w' h1)
theorem flat_zb (n : Nat) (z : Bool) : bLay.flat (List.replicate n z) = List.replicate n (.bool z) := by
  induction n with
  | zero => rfl
  | succ n ih => rw [List.replicate_succ, List.replicate_succ, Lay.flat_cons, ih]; rfl
theorem kwp_mnb (HK : Hid (Kn b0 w0 w L R)) (x : Operand) {n : Nat} (ho : o.op = .makeSlice 32 x x) (hx : a.eval x = .int .i64 (n : Int)) (hn : n ≤ 65536)
    (h : ∀ w' g, Hid (Kn b0 w0 w' L (R ++ [row bLay (.slice (some ⟨g, 0, none⟩) n n) (List.replicate n false)])) → Hid (Below w.heap.size w w') → K (a.put o.dst (.slice (some ⟨g, 0, none⟩) n n)) w') : o.wp Try.prog a w K Q := by
  obtain ⟨i0, hi, hz0, hz1, hz2⟩ := info_parts info_b
  have hm := run_make (P := Try.prog) w 32 4 i0 (.bool false) Try.underlying32 hi hz0 .i64 .i64 (n : Int) (n : Int) (by omega) (by omega) (by rw [hz2]; omega) (by omega)
  have e : madeCells (Value.cells (.bool false)) (((n : Nat) : Int).toNat * i0.size) = (bLay.flat (List.replicate n false)).toArray := by
    rw [flat_zb, hz1]
    apply Array.ext'
    simp only [madeCells, Value.cells, Array.toList_map, Array.toList_range]
    apply List.ext_getElem (by simp)
    intro k h1 h2
    simp [Nat.mod_one]
  rw [e] at hm
  have h4 := h _ w.heap.size (Lib.hid (HK.out.mkS bLay (List.replicate n false) n (by simp) hn)) (Lib.hid ((Below.refl _ w).alloc (Nat.le_refl _) _))
  unfold Oper.wp execOp
  simp only [ho, hx, Sem.run_bind, Sem.run_pure, Result.andThen_ok, hm]
  exact h4
theorem wpList_mnb (HK : Hid (Kn b0 w0 w L R)) (hgd : o.guard = none) (x : Operand) {n : Nat} (ho : o.op = .makeSlice 32 x x) (hx : a.eval x = .int .i64 (n : Int)) (hn : n ≤ 65536)
    (h : ∀ w' g, Hid (Kn b0 w0 w' L (R ++ [row bLay (.slice (some ⟨g, 0, none⟩) n n) (List.replicate n false)])) → wpList Try.prog ops Q rest (a.put o.dst (.slice (some ⟨g, 0, none⟩) n n)) w') : wpList Try.prog ops Q (o :: rest) a w :=
  wpList_plain hgd fun _ hK => kwp_mnb HK x ho hx hn fun w' g h1 _ => hK _ _ (h w' g h1)
theorem step_mnb (HK : Hid (Kn b0 w0 w L R)) (hgd : o.guard = none) (x : Operand) {n : Nat} (ho : o.op = .makeSlice 32 x x) (hx : a.eval x = .int .i64 (n : Int)) (hn : n ≤ 65536)
    (h : ∀ w' g, Hid (Kn b0 w0 w' L (R ++ [row bLay (.slice (some ⟨g, 0, none⟩) n n) (List.replicate n false)])) → Hid (Below w.heap.size w w') → K (a.put o.dst (.slice (some ⟨g, 0, none⟩) n n)) w') : if Region.wanted o (yielded ops a.tmps) = true then Oper.wp Try.prog o a w K Q else E := by
  rw [if_pos (by simp [Region.wanted, hgd])]
  exact kwp_mnb HK x ho hx hn h
theorem exec_ixs {b off n c i : Nat} (x q : Operand) (ho : o.op = .indexAddr 33 x q) (hx : a.eval x = .slice (some ⟨b, off, none⟩) n c) (hq : a.eval q = .int .i64 (i : Int)) (h : i < n) :
    (execOp a.eval o).run Try.prog w = .ok (.value (.pointer (some ⟨b, off + i, none⟩))) w := by
  have h1 := exec_slx (w := w) sLay x q ho hx hq h
  have e : off + i * sLay.k = off + i := by show off + i * 1 = _; rw [Nat.mul_one]
  rw [e] at h1
  exact h1
theorem exec_lcs {b off : Nat} {x : ByteArray} (p : Operand) (ho : o.op = .load 9 p) (hx : a.eval p = .pointer (some ⟨b, off, none⟩)) (hc : w.cell? ⟨b, off, none⟩ = some (.string x)) :
    (execOp a.eval o).run Try.prog w = .ok (.value (.string x)) w :=
  exec_cell p ho hx hc Try.underlying9 rfl
theorem kwp_pts (HK : Hid (Kn b0 w0 w L R)) (j : Nat) (x y : Operand) (ho : o.op = .store 9 x y) {g n c : Nat} {l : List ByteArray} (hR : R[j]? = some (row sLay (.slice (some ⟨g, 0, none⟩) n c) l)) (i : Nat) (hi : i < l.length)
    (hx : a.eval x = .pointer (some ⟨g, i, none⟩)) (p : ByteArray) (hy : a.eval y = .string p)
    (h : ∀ w', Hid (Kn b0 w0 w' L (R.set j (row sLay (.slice (some ⟨g, 0, none⟩) n c) (l.set i p)))) → K (a.put o.dst undef) w') : o.wp Try.prog a w K Q := by
  have hk := HK.out.putR hR i hi p
  have hown := HK.out.own j hR
  have e1 : i * sLay.k = i := Nat.mul_one i
  rw [e1] at hk
  have hcell : ∃ cur, Blk w g 9 cur ∧ i < cur.size := by
    rcases hown.2 with ⟨h1, _⟩ | ⟨g', cap, cur, h1, hb, hg, hnc, hcm, hs, ht⟩
    · cases h1
    · injection h1 with e1 e2 e3
      injection e1 with e1
      injection e1 with e1
      subst e1
      have hs' : cur.size = cap * 1 := hs
      exact ⟨cur, hg, by omega⟩
  obtain ⟨cur, hb, hsz⟩ := hcell
  have hs := run_storeCells_cells (P := Try.prog) g i [.string p] 0 w (fun j hj => by
      have : j = 0 := by simpa using hj
      subst this
      rw [hb.cell, Array.getElem?_eq_getElem (by omega)]; rfl) (fun j _ => hb.frozen _) (fun u hu => by simp at hu; subst hu; rfl)
  simp only [Nat.add_zero] at hs
  have hi1 : (Try.prog.info? 9).map (·.size) = some 1 := by kernel_rfl
  have hr : (storeVar 9 ⟨g, i, none⟩ (.string p)).run Try.prog w = .ok () (w.setCells g i [.string p]) := by
    cases hq : Try.prog.info? 9 with
    | none => simp [hq] at hi1
    | some q =>
      have hs1 : q.size = 1 := by simpa [hq] using hi1
      simp [storeVar, sizeOf, typeInfo, hq, Value.cells, hs1, hs]
  unfold Oper.wp execOp
  simp only [ho, hx, hy, Instr.storeAt, Instr.sureAddr, Sem.run_bind, Sem.run_pure, Result.andThen_ok, hr]
  exact h _ (Lib.hid hk)
theorem wpList_pts (HK : Hid (Kn b0 w0 w L R)) (j : Nat) (hgd : o.guard = none) (x y : Operand) (ho : o.op = .store 9 x y) {g n c : Nat} {l : List ByteArray} (hR : R[j]? = some (row sLay (.slice (some ⟨g, 0, none⟩) n c) l)) (i : Nat) (hi : i < l.length)
    (hx : a.eval x = .pointer (some ⟨g, i, none⟩)) (p : ByteArray) (hy : a.eval y = .string p)
    (h : ∀ w', Hid (Kn b0 w0 w' L (R.set j (row sLay (.slice (some ⟨g, 0, none⟩) n c) (l.set i p)))) → wpList Try.prog ops Q rest (a.put o.dst undef) w') : wpList Try.prog ops Q (o :: rest) a w :=
  wpList_plain hgd fun _ hK => kwp_pts HK j x y ho hR i hi hx p hy fun w' h1 => hK _ _ (h w' h1)
theorem flat_zs (n : Nat) (z : ByteArray) : sLay.flat (List.replicate n z) = List.replicate n (.string z) := by
  induction n with
  | zero => rfl
  | succ n ih => rw [List.replicate_succ, List.replicate_succ, Lay.flat_cons, ih]; rfl
theorem kwp_mns (HK : Hid (Kn b0 w0 w L R)) (x : Operand) {n : Nat} (ho : o.op = .makeSlice 33 x x) (hx : a.eval x = .int .i64 (n : Int)) (hn : n ≤ 65536)
    (h : ∀ w' g, Hid (Kn b0 w0 w' L (R ++ [row sLay (.slice (some ⟨g, 0, none⟩) n n) (List.replicate n ⟨#[]⟩)])) → Hid (Below w.heap.size w w') → K (a.put o.dst (.slice (some ⟨g, 0, none⟩) n n)) w') : o.wp Try.prog a w K Q := by
  obtain ⟨i0, hi, hz0, hz1, hz2⟩ := info_parts info_s
  have hm := run_make (P := Try.prog) w 33 9 i0 (.string ⟨#[]⟩) Try.underlying33 hi hz0 .i64 .i64 (n : Int) (n : Int) (by omega) (by omega) (by rw [hz2]; omega) (by omega)
  have e : madeCells (Value.cells (.string ⟨#[]⟩)) (((n : Nat) : Int).toNat * i0.size) = (sLay.flat (List.replicate n ⟨#[]⟩)).toArray := by
    rw [flat_zs, hz1]
    apply Array.ext'
    simp only [madeCells, Value.cells, Array.toList_map, Array.toList_range]
    apply List.ext_getElem (by simp)
    intro k h1 h2
    simp [Nat.mod_one]
  rw [e] at hm
  have h4 := h _ w.heap.size (Lib.hid (HK.out.mkS sLay (List.replicate n ⟨#[]⟩) n (by simp) hn)) (Lib.hid ((Below.refl _ w).alloc (Nat.le_refl _) _))
  unfold Oper.wp execOp
  simp only [ho, hx, Sem.run_bind, Sem.run_pure, Result.andThen_ok, hm]
  exact h4
theorem wpList_mns (HK : Hid (Kn b0 w0 w L R)) (hgd : o.guard = none) (x : Operand) {n : Nat} (ho : o.op = .makeSlice 33 x x) (hx : a.eval x = .int .i64 (n : Int)) (hn : n ≤ 65536)
    (h : ∀ w' g, Hid (Kn b0 w0 w' L (R ++ [row sLay (.slice (some ⟨g, 0, none⟩) n n) (List.replicate n ⟨#[]⟩)])) → wpList Try.prog ops Q rest (a.put o.dst (.slice (some ⟨g, 0, none⟩) n n)) w') : wpList Try.prog ops Q (o :: rest) a w :=
  wpList_plain hgd fun _ hK => kwp_mns HK x ho hx hn fun w' g h1 _ => hK _ _ (h w' g h1)
theorem step_mns (HK : Hid (Kn b0 w0 w L R)) (hgd : o.guard = none) (x : Operand) {n : Nat} (ho : o.op = .makeSlice 33 x x) (hx : a.eval x = .int .i64 (n : Int)) (hn : n ≤ 65536)
    (h : ∀ w' g, Hid (Kn b0 w0 w' L (R ++ [row sLay (.slice (some ⟨g, 0, none⟩) n n) (List.replicate n ⟨#[]⟩)])) → Hid (Below w.heap.size w w') → K (a.put o.dst (.slice (some ⟨g, 0, none⟩) n n)) w') : if Region.wanted o (yielded ops a.tmps) = true then Oper.wp Try.prog o a w K Q else E := by
  rw [if_pos (by simp [Region.wanted, hgd])]
  exact kwp_mns HK x ho hx hn h
end
/-- Where it begins, if it isn't empty, and its cells. -/
theorem Sls.bat {w : World} {A : Option Addr} {n c : Nat} {l : List Bool} (h : Sls bLay bF w A n c l) (hn : 0 < n) : ∃ b o, A = some ⟨b, o, Option.none⟩ ∧
    ∀ W, Below w.heap.size w W → ∀ (i : Nat) x, l[i]? = some x → W.cell? ⟨b, o + i, Option.none⟩ = some (.bool x) := by
  obtain ⟨b, o, e, hat⟩ := h.at hn
  refine ⟨b, o, e, fun W hW i x hx => ?_⟩
  have h1 := hat W hW i x hx 0 _ rfl
  have e2 : o + i * bLay.k + 0 = o + i := by show o + i * 1 + 0 = _; omega
  rw [e2] at h1
  exact h1
/-- Where it begins, if it isn't empty, and its cells. -/
theorem Sls.sat {w : World} {A : Option Addr} {n c : Nat} {l : List ByteArray} (h : Sls sLay sF w A n c l) (hn : 0 < n) : ∃ b o, A = some ⟨b, o, Option.none⟩ ∧
    ∀ W, Below w.heap.size w W → ∀ (i : Nat) x, l[i]? = some x → W.cell? ⟨b, o + i, Option.none⟩ = some (.string x) := by
  obtain ⟨b, o, e, hat⟩ := h.at hn
  refine ⟨b, o, e, fun W hW i x hx => ?_⟩
  have h1 := hat W hW i x hx 0 _ rfl
  have e2 : o + i * sLay.k + 0 = o + i := by show o + i * 1 + 0 = _; omega
  rw [e2] at h1
  exact h1
/-- Told: a piece and an error; a load; a load and an error. -/
def IsPE (p : Lpc) (x : Int) (w : World) (e : Ending) (w' : World) : Prop := e = .returned (.tuple #[.agg #[.int .i64 p.n, .int .i64 p.a, .int .i64 p.t, .int .u32 (p.s : Int), .string p.d], .int .i64 x]) ∧ Below w.heap.size w w'
def IsLD (l : Ldd) (w : World) (e : Ending) (w' : World) : Prop := ∃ A n c A2 n2 c2, e = .returned (.agg #[.int .i64 l.n, .int .i64 l.t, .int .u32 (l.s : Int), .slice A n c, .slice A2 n2 c2]) ∧ Kn w.heap.size w w' [] [row bLay (.slice A n c) l.h, row sLay (.slice A2 n2 c2) l.d]
def IsLE (l : Ldd) (x : Int) (w : World) (e : Ending) (w' : World) : Prop := ∃ A n c A2 n2 c2, e = .returned (.tuple #[.agg #[.int .i64 l.n, .int .i64 l.t, .int .u32 (l.s : Int), .slice A n c, .slice A2 n2 c2], .int .i64 x]) ∧ Kn w.heap.size w w' [] [row bLay (.slice A n c) l.h, row sLay (.slice A2 n2 c2) l.d]
def IsSE (s : ByteArray) (x : Int) (w : World) (e : Ending) (w' : World) : Prop := e = .returned (.tuple #[.string s, .int .i64 x]) ∧ Below w.heap.size w w'
section
variable {fn : Func} {R : Ending → World → Prop} {a : Act} {w : World} {B : Nat} {n t c : Int} {s : Nat} {d : ByteArray} {H D u : Value} {q q2 : Tmp}
theorem ret_pe (hf : fn.results = #[.cell q 24, .tmp q2]) (h2 : a.tmps[q]? = some (.pointer (some ⟨B, 0, none⟩))) (h3 : a.tmps[q2]? = some u) (hd : a.defers = []) (hb : Blk w B 24 (pcC n c t s d))
    (hR : R (.returned (.tuple #[.agg #[.int .i64 n, .int .i64 c, .int .i64 t, .int .u32 (s : Int), .string d], u])) w) : bodyPost Try.prog fn R Exit.ret a w := by
  refine bodyPost_ret (v := .tuple #[.agg #[.int .i64 n, .int .i64 c, .int .i64 t, .int .u32 (s : Int), .string d], u]) ?_ hd hR
  have h : (loadVar 24 ⟨B, 0, none⟩).run Try.prog w = .ok (.agg (pcC n c t s d)) w := run_loadVar_row (P := Try.prog) w B _ _ _ (0, 0) _ hb Try.underlying24 rfl info_pc
  unfold pcC at h
  simp [results, hf, asAddr, Sem.run_bind, h2, h3, h]
theorem ret_le (hf : fn.results = #[.cell q 35, .tmp q2]) (h2 : a.tmps[q]? = some (.pointer (some ⟨B, 0, none⟩))) (h3 : a.tmps[q2]? = some u) (hd : a.defers = []) (hb : Blk w B 35 (ldC n t s H D))
    (hR : R (.returned (.tuple #[.agg #[.int .i64 n, .int .i64 t, .int .u32 (s : Int), H, D], u])) w) : bodyPost Try.prog fn R Exit.ret a w := by
  refine bodyPost_ret (v := .tuple #[.agg #[.int .i64 n, .int .i64 t, .int .u32 (s : Int), H, D], u]) ?_ hd hR
  have h : (loadVar 35 ⟨B, 0, none⟩).run Try.prog w = .ok (.agg (ldC n t s H D)) w := run_loadVar_row (P := Try.prog) w B _ _ _ (0, 0) _ hb Try.underlying35 rfl info_ld
  unfold ldC at h
  simp [results, hf, asAddr, Sem.run_bind, h2, h3, h]
theorem ret_ld (hf : fn.results = #[.cell q 35]) (h2 : a.tmps[q]? = some (.pointer (some ⟨B, 0, none⟩))) (hd : a.defers = []) (hb : Blk w B 35 (ldC n t s H D))
    (hR : R (.returned (.agg #[.int .i64 n, .int .i64 t, .int .u32 (s : Int), H, D])) w) : bodyPost Try.prog fn R Exit.ret a w := by
  refine bodyPost_ret (v := .agg #[.int .i64 n, .int .i64 t, .int .u32 (s : Int), H, D]) ?_ hd hR
  have h : (loadVar 35 ⟨B, 0, none⟩).run Try.prog w = .ok (.agg (ldC n t s H D)) w := run_loadVar_row (P := Try.prog) w B _ _ _ (0, 0) _ hb Try.underlying35 rfl info_ld
  unfold ldC at h
  simp [results, hf, asAddr, Sem.run_bind, h2, h]
end
end Go.Proofs.Ytfboneehnmbklaa
