/-
  How values lie; laws of loads, stores and making; a way out.
  No condition but those named.
-/
import Derived.Test.YtbcdmmhbmjjooaaRows
import Derived.Test.YtbcdmmhbmjjooaaKn
import Derived.KernelRfl
set_option linter.unusedSimpArgs false
set_option linter.unusedVariables false
namespace Go.Proofs.Ytbcdmmhbmjjooaa
open Go.RowKit

/-- A value's cells. -/
def vC (k n : Int) (f : Nat) (s : ByteArray) : Array Value := #[.int .i64 k, .int .i64 n, .int .u64 (f : Int), .string s]
theorem info_v4 : (Try.prog.info? 25).map (·.size) = some 4 := by kernel_rfl
theorem info_i1 : (Try.prog.info? 3).map (·.size) = some 1 := by kernel_rfl
theorem info_u1 : (Try.prog.info? 23).map (·.size) = some 1 := by kernel_rfl
theorem info_s1 : (Try.prog.info? 9).map (·.size) = some 1 := by kernel_rfl
section
variable {b0 : Nat} {w0 w : World} {L : List (Nat × TypeId × Array Value)} {R : List RowE} {ops : Array Oper} {rest : List Oper} {o : Oper} {a : Act} {Q : Exit → Act → World → Prop} {g : Nat} {k n k2 n2 : Int} {f f2 : Nat} {s s2 : ByteArray}
theorem wpList_akv (HK : Hid (Kn b0 w0 w L R)) (hgd : o.guard = none) (ho : o.op = .alloc 25)
    (h : ∀ w' g, Hid (Kn b0 w0 w' (L ++ [(g, 25, vC 0 0 0 ⟨#[]⟩)]) R) → wpList Try.prog ops Q rest (a.put o.dst (.pointer (some ⟨g, 0, none⟩))) w') : wpList Try.prog ops Q (o :: rest) a w :=
  wpList_plain hgd fun K hK => by
    have h4 := h _ w.heap.size (Lib.hid (HK.out.alloc _ _))
    unfold Oper.wp execOp
    simp only [ho]
    unfold vC at h4
    go_simp
    exact hK _ _ h4
theorem wpList_sv (HK : Hid (Kn b0 w0 w L R)) (i : Nat) (hgd : o.guard = none) (p q : Operand) (ho : o.op = .store 25 p q) (hL : L[i]? = some (g, 25, vC k n f s)) (hx : a.eval p = .pointer (some ⟨g, 0, none⟩)) (hy : a.eval q = .agg #[.int .i64 k2, .int .i64 n2, .int .u64 (f2 : Int), .string s2])
    (h : ∀ w', Hid (Kn b0 w0 w' (L.set i (g, 25, vC k2 n2 f2 s2)) R) → wpList Try.prog ops Q rest (a.put o.dst undef) w') : wpList Try.prog ops Q (o :: rest) a w :=
  wpList_ss HK i hgd _ p q ho hL hx hy (by show 4 ≤ 4; decide) info_v4 (by simp [Value.oneCell']) fun w' h1 h2 => h w' (by
    have e : putCells (vC k n f s) 0 (#[Value.int .i64 k2, .int .i64 n2, .int .u64 (f2 : Int), .string s2] : Array Value).toList = vC k2 n2 f2 s2 := by
      show putCells (vC k n f s) 0 (vC k2 n2 f2 s2).toList = vC k2 n2 f2 s2
      rw [putCells_all (vs := (vC k2 n2 f2 s2).toList) (cs := vC k n f s) rfl, Array.toArray_toList]
    rw [e] at h1
    exact h1)
theorem wpList_svn (HK : Hid (Kn b0 w0 w L R)) (i : Nat) (hgd : o.guard = none) (p q : Operand) (ho : o.op = .store 3 p q) (hL : L[i]? = some (g, 25, vC k n f s)) (hx : a.eval p = .pointer (some ⟨g, 1, none⟩)) (hy : a.eval q = .int .i64 n2)
    (h : ∀ w', Hid (Kn b0 w0 w' (L.set i (g, 25, vC k n2 f s)) R) → wpList Try.prog ops Q rest (a.put o.dst undef) w') : wpList Try.prog ops Q (o :: rest) a w :=
  wpList_sc HK i hgd _ p q ho hL hx hy rfl rfl (by show 1 < 4; decide) info_i1 fun w' h1 _ => h w' h1
theorem wpList_svf (HK : Hid (Kn b0 w0 w L R)) (i : Nat) (hgd : o.guard = none) (p q : Operand) (ho : o.op = .store 23 p q) (hL : L[i]? = some (g, 25, vC k n f s)) (hx : a.eval p = .pointer (some ⟨g, 2, none⟩)) (hy : a.eval q = .int .u64 (f2 : Int))
    (h : ∀ w', Hid (Kn b0 w0 w' (L.set i (g, 25, vC k n f2 s)) R) → wpList Try.prog ops Q rest (a.put o.dst undef) w') : wpList Try.prog ops Q (o :: rest) a w :=
  wpList_sc HK i hgd _ p q ho hL hx hy rfl rfl (by show 2 < 4; decide) info_u1 fun w' h1 _ => h w' h1
theorem wpList_svs (HK : Hid (Kn b0 w0 w L R)) (i : Nat) (hgd : o.guard = none) (p q : Operand) (ho : o.op = .store 9 p q) (hL : L[i]? = some (g, 25, vC k n f s)) (hx : a.eval p = .pointer (some ⟨g, 3, none⟩)) (hy : a.eval q = .string s2)
    (h : ∀ w', Hid (Kn b0 w0 w' (L.set i (g, 25, vC k n f s2)) R) → wpList Try.prog ops Q rest (a.put o.dst undef) w') : wpList Try.prog ops Q (o :: rest) a w :=
  wpList_sc HK i hgd _ p q ho hL hx hy rfl rfl (by show 3 < 4; decide) info_s1 fun w' h1 _ => h w' h1
theorem kexec_vv (HK : Hid (Kn b0 w0 w L R)) (i : Nat) (x : Operand) (ho : o.op = .load 25 x) (hL : L[i]? = some (g, 25, vC k n f s)) (hx : a.eval x = .pointer (some ⟨g, 0, none⟩)) :
    (execOp a.eval o).run Try.prog w = .ok (.value (.agg #[.int .i64 k, .int .i64 n, .int .u64 (f : Int), .string s])) w :=
  kexec_ls HK _ x ho i hL hx (vC k n f s) (fun j _ => by rw [Nat.zero_add]) Try.underlying25 info_v4
end
theorem ret_v {fn : Func} {R : Ending → World → Prop} {a : Act} {w : World} {B : Nat} {k n : Int} {f : Nat} {s : ByteArray} {q : Tmp} (hf : fn.results = #[.cell q 25]) (h2 : a.tmps[q]? = some (.pointer (some ⟨B, 0, none⟩))) (hd : a.defers = []) (hb : Blk w B 25 (vC k n f s))
    (hR : R (.returned (.agg #[.int .i64 k, .int .i64 n, .int .u64 (f : Int), .string s])) w) : bodyPost Try.prog fn R Exit.ret a w :=
  bodyPost_ret (results_cell_row hf a.tmps w B _ _ (0, 0) _ (by simp [h2]) hb Try.underlying25 rfl info_v4) hd hR
end Go.Proofs.Ytbcdmmhbmjjooaa
