/-
  How the calls of the law's rows lie: blocks that hold one, loads and stores of one, of its fields.
  No condition but those named.
-/
import Derived.Test.YtakjggmiilkmdaaLogMath
import Derived.Test.YtakjggmiilkmdaaJMade
import Derived.KernelRfl
set_option linter.unusedSimpArgs false
set_option linter.unusedVariables false
set_option maxRecDepth 100000
namespace Go.Proofs.Ytakjggmiilkmdaa
open Go.ChangeShapes Go.WideShapes Go.Deep Go.RowKit

def loC (b c d : Int) (H : Value) : Array Value := #[.int .i64 b, .int .i64 c, .int .i64 d, H]
theorem info_loz : (Try.prog.info? 26).map (fun i => (i.zero, i.size, i.bytes)) = some (some (Value.agg (loC 0 0 0 (.slice none 0 0))), 4, 48) := by kernel_rfl
theorem info_lo : (Try.prog.info? 26).map (·.size) = some 4 := by kernel_rfl
section
variable {b0 : Nat} {w0 w : World} {L : List (Nat × TypeId × Array Value)} {R : List RowE} {ops : Array Oper} {rest : List Oper} {o : Oper} {a : Act} {Q : Exit → Act → World → Prop} {K : Act → World → Prop} {E : Prop} {g : Nat}
variable {b c d b2 c2 d2 : Int} {H H2 : Value}
theorem wpList_alo (HK : Hid (Kn b0 w0 w L R)) (hgd : o.guard = none) (ho : o.op = .alloc 26)
    (h : ∀ w' g, Hid (Kn b0 w0 w' (L ++ [(g, 26, loC 0 0 0 (.slice none 0 0))]) R) → wpList Try.prog ops Q rest (a.put o.dst (.pointer (some ⟨g, 0, none⟩))) w') : wpList Try.prog ops Q (o :: rest) a w :=
  wpList_plain hgd fun _ hK => lkwp_made info_loz HK ho fun w' g h1 _ => hK _ _ (h w' g h1)
theorem step_alo (HK : Hid (Kn b0 w0 w L R)) (hgd : o.guard = none) (ho : o.op = .alloc 26)
    (h : ∀ w' g, Hid (Kn b0 w0 w' (L ++ [(g, 26, loC 0 0 0 (.slice none 0 0))]) R) → Hid (Below w.heap.size w w') → K (a.put o.dst (.pointer (some ⟨g, 0, none⟩))) w') : if Region.wanted o (yielded ops a.tmps) = true then Oper.wp Try.prog o a w K Q else E := by
  rw [if_pos (by simp [Region.wanted, hgd])]
  exact lkwp_made info_loz HK ho h
theorem kwp_slo (HK : Hid (Kn b0 w0 w L R)) (i : Nat) (e1 e2 : Operand) (ho : o.op = .store 26 e1 e2) (hL : L[i]? = some (g, 26, loC b c d H)) (hx : a.eval e1 = .pointer (some ⟨g, 0, none⟩)) (hy : a.eval e2 = .agg #[.int .i64 b2, .int .i64 c2, .int .i64 d2, H2]) (h1 : H2.oneCell' = true)
    (h : ∀ w', Hid (Kn b0 w0 w' (L.set i (g, 26, loC b2 c2 d2 H2)) R) → K (a.put o.dst undef) w') : o.wp Try.prog a w K Q :=
  kwp_ss HK _ e1 e2 ho i hL hx hy (by show 4 ≤ 4; decide) info_lo (by simp only [List.all_toArray, List.all_cons, List.all_nil, h1, Bool.and_true]; rfl) fun w' h1 _ => h w' (by
    have e : putCells (loC b c d H) 0 (#[Value.int .i64 b2, .int .i64 c2, .int .i64 d2, H2] : Array Value).toList = loC b2 c2 d2 H2 := by
      show putCells (loC b c d H) 0 (loC b2 c2 d2 H2).toList = loC b2 c2 d2 H2
      rw [putCells_all (vs := (loC b2 c2 d2 H2).toList) (cs := loC b c d H) rfl, Array.toArray_toList]
    rw [e] at h1
    exact h1)
theorem wpList_slo (HK : Hid (Kn b0 w0 w L R)) (i : Nat) (hgd : o.guard = none) (e1 e2 : Operand) (ho : o.op = .store 26 e1 e2) (hL : L[i]? = some (g, 26, loC b c d H)) (hx : a.eval e1 = .pointer (some ⟨g, 0, none⟩)) (hy : a.eval e2 = .agg #[.int .i64 b2, .int .i64 c2, .int .i64 d2, H2]) (h1 : H2.oneCell' = true)
    (h : ∀ w', Hid (Kn b0 w0 w' (L.set i (g, 26, loC b2 c2 d2 H2)) R) → wpList Try.prog ops Q rest (a.put o.dst undef) w') : wpList Try.prog ops Q (o :: rest) a w :=
  wpList_plain hgd fun _ hK => kwp_slo HK i e1 e2 ho hL hx hy h1 fun w' h2 => hK _ _ (h w' h2)
theorem step_slo (HK : Hid (Kn b0 w0 w L R)) (i : Nat) (hgd : o.guard = none) (e1 e2 : Operand) (ho : o.op = .store 26 e1 e2) (hL : L[i]? = some (g, 26, loC b c d H)) (hx : a.eval e1 = .pointer (some ⟨g, 0, none⟩)) (hy : a.eval e2 = .agg #[.int .i64 b2, .int .i64 c2, .int .i64 d2, H2]) (h1 : H2.oneCell' = true)
    (h : ∀ w', Hid (Kn b0 w0 w' (L.set i (g, 26, loC b2 c2 d2 H2)) R) → K (a.put o.dst undef) w') : if Region.wanted o (yielded ops a.tmps) = true then Oper.wp Try.prog o a w K Q else E := by
  rw [if_pos (by simp [Region.wanted, hgd])]
  exact kwp_slo HK i e1 e2 ho hL hx hy h1 h
theorem klo (HK : Hid (Kn b0 w0 w L R)) (i : Nat) (x : Operand) (ho : o.op = .load 26 x) (hL : L[i]? = some (g, 26, loC b c d H)) (hx : a.eval x = .pointer (some ⟨g, 0, none⟩)) :
    (execOp a.eval o).run Try.prog w = .ok (.value (.agg #[.int .i64 b, .int .i64 c, .int .i64 d, H])) w :=
  kexec_ls HK _ x ho i hL hx (loC b c d H) (fun j _ => by rw [Nat.zero_add]) Try.underlying26 info_lo
theorem klo_k (HK : Hid (Kn b0 w0 w L R)) (i : Nat) (x : Operand) (ho : o.op = .load 3 x) (hL : L[i]? = some (g, 26, loC b c d H)) (hx : a.eval x = .pointer (some ⟨g, 0, none⟩)) :
    (execOp a.eval o).run Try.prog w = .ok (.value (.int .i64 b)) w :=
  kexec_lc HK 3 x ho i hL hx (v := .int .i64 b) rfl Try.underlying3 rfl
theorem kwp_slo_k {x2 : Int} (HK : Hid (Kn b0 w0 w L R)) (i : Nat) (e1 e2 : Operand) (ho : o.op = .store 3 e1 e2) (hL : L[i]? = some (g, 26, loC b c d H)) (hx : a.eval e1 = .pointer (some ⟨g, 0, none⟩)) (hy : a.eval e2 = .int .i64 x2)
    (h : ∀ w', Hid (Kn b0 w0 w' (L.set i (g, 26, loC x2 c d H)) R) → K (a.put o.dst undef) w') : o.wp Try.prog a w K Q :=
  kwp_sc HK _ e1 e2 ho i hL hx hy rfl rfl (by show 0 < 4; decide) (by kernel_rfl) fun w' h1 _ => h w' h1
theorem wpList_slo_k {x2 : Int} (HK : Hid (Kn b0 w0 w L R)) (i : Nat) (hgd : o.guard = none) (e1 e2 : Operand) (ho : o.op = .store 3 e1 e2) (hL : L[i]? = some (g, 26, loC b c d H)) (hx : a.eval e1 = .pointer (some ⟨g, 0, none⟩)) (hy : a.eval e2 = .int .i64 x2)
    (h : ∀ w', Hid (Kn b0 w0 w' (L.set i (g, 26, loC x2 c d H)) R) → wpList Try.prog ops Q rest (a.put o.dst undef) w') : wpList Try.prog ops Q (o :: rest) a w :=
  wpList_plain hgd fun _ hK => kwp_slo_k HK i e1 e2 ho hL hx hy fun w' h1 => hK _ _ (h w' h1)
theorem step_slo_k {x2 : Int} (HK : Hid (Kn b0 w0 w L R)) (i : Nat) (hgd : o.guard = none) (e1 e2 : Operand) (ho : o.op = .store 3 e1 e2) (hL : L[i]? = some (g, 26, loC b c d H)) (hx : a.eval e1 = .pointer (some ⟨g, 0, none⟩)) (hy : a.eval e2 = .int .i64 x2)
    (h : ∀ w', Hid (Kn b0 w0 w' (L.set i (g, 26, loC x2 c d H)) R) → K (a.put o.dst undef) w') : if Region.wanted o (yielded ops a.tmps) = true then Oper.wp Try.prog o a w K Q else E := by
  rw [if_pos (by simp [Region.wanted, hgd])]
  exact kwp_slo_k HK i e1 e2 ho hL hx hy h
theorem klo_n (HK : Hid (Kn b0 w0 w L R)) (i : Nat) (x : Operand) (ho : o.op = .load 3 x) (hL : L[i]? = some (g, 26, loC b c d H)) (hx : a.eval x = .pointer (some ⟨g, 1, none⟩)) :
    (execOp a.eval o).run Try.prog w = .ok (.value (.int .i64 c)) w :=
  kexec_lc HK 3 x ho i hL hx (v := .int .i64 c) rfl Try.underlying3 rfl
theorem kwp_slo_n {x2 : Int} (HK : Hid (Kn b0 w0 w L R)) (i : Nat) (e1 e2 : Operand) (ho : o.op = .store 3 e1 e2) (hL : L[i]? = some (g, 26, loC b c d H)) (hx : a.eval e1 = .pointer (some ⟨g, 1, none⟩)) (hy : a.eval e2 = .int .i64 x2)
    (h : ∀ w', Hid (Kn b0 w0 w' (L.set i (g, 26, loC b x2 d H)) R) → K (a.put o.dst undef) w') : o.wp Try.prog a w K Q :=
  kwp_sc HK _ e1 e2 ho i hL hx hy rfl rfl (by show 1 < 4; decide) (by kernel_rfl) fun w' h1 _ => h w' h1
theorem wpList_slo_n {x2 : Int} (HK : Hid (Kn b0 w0 w L R)) (i : Nat) (hgd : o.guard = none) (e1 e2 : Operand) (ho : o.op = .store 3 e1 e2) (hL : L[i]? = some (g, 26, loC b c d H)) (hx : a.eval e1 = .pointer (some ⟨g, 1, none⟩)) (hy : a.eval e2 = .int .i64 x2)
    (h : ∀ w', Hid (Kn b0 w0 w' (L.set i (g, 26, loC b x2 d H)) R) → wpList Try.prog ops Q rest (a.put o.dst undef) w') : wpList Try.prog ops Q (o :: rest) a w :=
  wpList_plain hgd fun _ hK => kwp_slo_n HK i e1 e2 ho hL hx hy fun w' h1 => hK _ _ (h w' h1)
theorem step_slo_n {x2 : Int} (HK : Hid (Kn b0 w0 w L R)) (i : Nat) (hgd : o.guard = none) (e1 e2 : Operand) (ho : o.op = .store 3 e1 e2) (hL : L[i]? = some (g, 26, loC b c d H)) (hx : a.eval e1 = .pointer (some ⟨g, 1, none⟩)) (hy : a.eval e2 = .int .i64 x2)
    (h : ∀ w', Hid (Kn b0 w0 w' (L.set i (g, 26, loC b x2 d H)) R) → K (a.put o.dst undef) w') : if Region.wanted o (yielded ops a.tmps) = true then Oper.wp Try.prog o a w K Q else E := by
  rw [if_pos (by simp [Region.wanted, hgd])]
  exact kwp_slo_n HK i e1 e2 ho hL hx hy h
theorem klo_m (HK : Hid (Kn b0 w0 w L R)) (i : Nat) (x : Operand) (ho : o.op = .load 3 x) (hL : L[i]? = some (g, 26, loC b c d H)) (hx : a.eval x = .pointer (some ⟨g, 2, none⟩)) :
    (execOp a.eval o).run Try.prog w = .ok (.value (.int .i64 d)) w :=
  kexec_lc HK 3 x ho i hL hx (v := .int .i64 d) rfl Try.underlying3 rfl
theorem kwp_slo_m {x2 : Int} (HK : Hid (Kn b0 w0 w L R)) (i : Nat) (e1 e2 : Operand) (ho : o.op = .store 3 e1 e2) (hL : L[i]? = some (g, 26, loC b c d H)) (hx : a.eval e1 = .pointer (some ⟨g, 2, none⟩)) (hy : a.eval e2 = .int .i64 x2)
    (h : ∀ w', Hid (Kn b0 w0 w' (L.set i (g, 26, loC b c x2 H)) R) → K (a.put o.dst undef) w') : o.wp Try.prog a w K Q :=
  kwp_sc HK _ e1 e2 ho i hL hx hy rfl rfl (by show 2 < 4; decide) (by kernel_rfl) fun w' h1 _ => h w' h1
theorem wpList_slo_m {x2 : Int} (HK : Hid (Kn b0 w0 w L R)) (i : Nat) (hgd : o.guard = none) (e1 e2 : Operand) (ho : o.op = .store 3 e1 e2) (hL : L[i]? = some (g, 26, loC b c d H)) (hx : a.eval e1 = .pointer (some ⟨g, 2, none⟩)) (hy : a.eval e2 = .int .i64 x2)
    (h : ∀ w', Hid (Kn b0 w0 w' (L.set i (g, 26, loC b c x2 H)) R) → wpList Try.prog ops Q rest (a.put o.dst undef) w') : wpList Try.prog ops Q (o :: rest) a w :=
  wpList_plain hgd fun _ hK => kwp_slo_m HK i e1 e2 ho hL hx hy fun w' h1 => hK _ _ (h w' h1)
theorem step_slo_m {x2 : Int} (HK : Hid (Kn b0 w0 w L R)) (i : Nat) (hgd : o.guard = none) (e1 e2 : Operand) (ho : o.op = .store 3 e1 e2) (hL : L[i]? = some (g, 26, loC b c d H)) (hx : a.eval e1 = .pointer (some ⟨g, 2, none⟩)) (hy : a.eval e2 = .int .i64 x2)
    (h : ∀ w', Hid (Kn b0 w0 w' (L.set i (g, 26, loC b c x2 H)) R) → K (a.put o.dst undef) w') : if Region.wanted o (yielded ops a.tmps) = true then Oper.wp Try.prog o a w K Q else E := by
  rw [if_pos (by simp [Region.wanted, hgd])]
  exact kwp_slo_m HK i e1 e2 ho hL hx hy h
theorem klo_e (HK : Hid (Kn b0 w0 w L R)) (i : Nat) (x : Operand) (ho : o.op = .load 22 x) (hL : L[i]? = some (g, 26, loC b c d H)) (hx : a.eval x = .pointer (some ⟨g, 3, none⟩)) :
    (execOp a.eval o).run Try.prog w = .ok (.value H) w :=
  kexec_lc HK 22 x ho i hL hx (v := H) rfl Try.underlying22 rfl
variable {A : Option Addr} {m k : Nat}
theorem kwp_slo_e (HK : Hid (Kn b0 w0 w L R)) (i : Nat) (e1 e2 : Operand) (ho : o.op = .store 22 e1 e2) (hL : L[i]? = some (g, 26, loC b c d H)) (hx : a.eval e1 = .pointer (some ⟨g, 3, none⟩)) (hy : a.eval e2 = .slice A m k)
    (h : ∀ w', Hid (Kn b0 w0 w' (L.set i (g, 26, loC b c d (.slice A m k))) R) → K (a.put o.dst undef) w') : o.wp Try.prog a w K Q :=
  kwp_sc HK _ e1 e2 ho i hL hx hy rfl rfl (by show 3 < 4; decide) (by kernel_rfl) fun w' h1 _ => h w' h1
theorem wpList_slo_e (HK : Hid (Kn b0 w0 w L R)) (i : Nat) (hgd : o.guard = none) (e1 e2 : Operand) (ho : o.op = .store 22 e1 e2) (hL : L[i]? = some (g, 26, loC b c d H)) (hx : a.eval e1 = .pointer (some ⟨g, 3, none⟩)) (hy : a.eval e2 = .slice A m k)
    (h : ∀ w', Hid (Kn b0 w0 w' (L.set i (g, 26, loC b c d (.slice A m k))) R) → wpList Try.prog ops Q rest (a.put o.dst undef) w') : wpList Try.prog ops Q (o :: rest) a w :=
  wpList_plain hgd fun _ hK => kwp_slo_e HK i e1 e2 ho hL hx hy fun w' h1 => hK _ _ (h w' h1)
theorem step_slo_e (HK : Hid (Kn b0 w0 w L R)) (i : Nat) (hgd : o.guard = none) (e1 e2 : Operand) (ho : o.op = .store 22 e1 e2) (hL : L[i]? = some (g, 26, loC b c d H)) (hx : a.eval e1 = .pointer (some ⟨g, 3, none⟩)) (hy : a.eval e2 = .slice A m k)
    (h : ∀ w', Hid (Kn b0 w0 w' (L.set i (g, 26, loC b c d (.slice A m k))) R) → K (a.put o.dst undef) w') : if Region.wanted o (yielded ops a.tmps) = true then Oper.wp Try.prog o a w K Q else E := by
  rw [if_pos (by simp [Region.wanted, hgd])]
  exact kwp_slo_e HK i e1 e2 ho hL hx hy h
end
end Go.Proofs.Ytakjggmiilkmdaa
