/-
  How meters, values and an array of four values lie in blocks: laws of loads, stores and making; two meters compared; ways out; an argument that is a meter.
  No condition but those named.
-/
import Derived.Test.YtbaaoenmnmpfjaaMtTold
import Derived.Test.YtbaaoenmnmpfjaaVlBlk
import Derived.Test.YtbaaoenmnmpfjaaExn
import Derived.Test.YtbaaoenmnmpfjaaOpensT
set_option linter.unusedSimpArgs false
set_option linter.unusedVariables false
namespace Go.Proofs.Ytbaaoenmnmpfjaa
open Go.ChangeShapes Go.WideShapes Go.Deep Go.RowKit

/-- A meter's cells; an array's, of a meter. -/
def mC (n : Int) (s l m : Nat) : Array Value := #[.int .i64 n, .int .u64 (s : Int), .int .u64 (l : Int), .int .u64 (m : Int)]
def arC (n : Int) (s l m : Nat) : Array Value := #[.int .i64 1, .int .i64 n, .int .u64 0, .string ⟨#[]⟩, .int .i64 2, .int .i64 0, .int .u64 (s : Int), .string ⟨#[]⟩, .int .i64 2, .int .i64 0, .int .u64 (l : Int), .string ⟨#[]⟩, .int .i64 2, .int .i64 0, .int .u64 (m : Int), .string ⟨#[]⟩]
def zrC : Array Value := #[.int .i64 0, .int .i64 0, .int .u64 0, .string ⟨#[]⟩, .int .i64 0, .int .i64 0, .int .u64 0, .string ⟨#[]⟩, .int .i64 0, .int .i64 0, .int .u64 0, .string ⟨#[]⟩, .int .i64 0, .int .i64 0, .int .u64 0, .string ⟨#[]⟩]
theorem info_m4 : (Try.prog.info? 24).map (·.size) = some 4 := by kernel_rfl
theorem told_ar (n : Int) (s l m : Nat) (w : World) :
    Calls Try.prog 23 #[.agg #[.int .i64 n, .int .u64 (s : Int), .int .u64 (l : Int), .int .u64 (m : Int)]] w (fun e w' => e = .returned (.agg (arC n s l m)) ∧ Below w.heap.size w w') :=
  (told_any n s l m w).mono fun e w' ⟨h1, h2⟩ => ⟨h1, by subst h2; go_grown⟩
section
variable {b0 : Nat} {w0 w : World} {L : List (Nat × TypeId × Array Value)} {R : List RowE} {ops : Array Oper} {rest : List Oper} {o : Oper} {a : Act} {Q : Exit → Act → World → Prop} {K : Act → World → Prop} {E : Prop} {g : Nat} {n n2 : Int} {s l m s2 l2 m2 : Nat}
theorem wpList_akm (HK : Hid (Kn b0 w0 w L R)) (hgd : o.guard = none) (ho : o.op = .alloc 24)
    (h : ∀ w' g, Hid (Kn b0 w0 w' (L ++ [(g, 24, mC 0 0 0 0)]) R) → wpList Try.prog ops Q rest (a.put o.dst (.pointer (some ⟨g, 0, none⟩))) w') : wpList Try.prog ops Q (o :: rest) a w :=
  wpList_plain hgd fun K hK => by
    have h4 := h _ w.heap.size (Lib.hid (HK.out.alloc _ _))
    unfold Oper.wp execOp
    simp only [ho]
    unfold mC at h4
    go_simp
    exact hK _ _ h4
theorem wpList_aka (HK : Hid (Kn b0 w0 w L R)) (hgd : o.guard = none) (ho : o.op = .alloc 41)
    (h : ∀ w' g, Hid (Kn b0 w0 w' (L ++ [(g, 41, zrC)]) R) → wpList Try.prog ops Q rest (a.put o.dst (.pointer (some ⟨g, 0, none⟩))) w') : wpList Try.prog ops Q (o :: rest) a w :=
  wpList_plain hgd fun K hK => by
    have h4 := h _ w.heap.size (Lib.hid (HK.out.alloc _ _))
    unfold Oper.wp execOp
    simp only [ho]
    unfold zrC at h4
    go_simp
    exact hK _ _ h4
theorem kwp_sm (HK : Hid (Kn b0 w0 w L R)) (i : Nat) (p q : Operand) (ho : o.op = .store 24 p q) (hL : L[i]? = some (g, 24, mC n s l m)) (hx : a.eval p = .pointer (some ⟨g, 0, none⟩)) (hy : a.eval q = .agg #[.int .i64 n2, .int .u64 (s2 : Int), .int .u64 (l2 : Int), .int .u64 (m2 : Int)])
    (h : ∀ w', Hid (Kn b0 w0 w' (L.set i (g, 24, mC n2 s2 l2 m2)) R) → K (a.put o.dst undef) w') : o.wp Try.prog a w K Q :=
  kwp_ss HK _ p q ho i hL hx hy (by show 4 ≤ 4; decide) info_m4 (by simp [Value.oneCell']) fun w' h1 _ => h w' (by
    have e : putCells (mC n s l m) 0 (#[Value.int .i64 n2, .int .u64 (s2 : Int), .int .u64 (l2 : Int), .int .u64 (m2 : Int)] : Array Value).toList = mC n2 s2 l2 m2 := by
      show putCells (mC n s l m) 0 (mC n2 s2 l2 m2).toList = mC n2 s2 l2 m2
      rw [putCells_all (vs := (mC n2 s2 l2 m2).toList) (cs := mC n s l m) rfl, Array.toArray_toList]
    rw [e] at h1
    exact h1)
theorem wpList_sm (HK : Hid (Kn b0 w0 w L R)) (i : Nat) (hgd : o.guard = none) (p q : Operand) (ho : o.op = .store 24 p q) (hL : L[i]? = some (g, 24, mC n s l m)) (hx : a.eval p = .pointer (some ⟨g, 0, none⟩)) (hy : a.eval q = .agg #[.int .i64 n2, .int .u64 (s2 : Int), .int .u64 (l2 : Int), .int .u64 (m2 : Int)])
    (h : ∀ w', Hid (Kn b0 w0 w' (L.set i (g, 24, mC n2 s2 l2 m2)) R) → wpList Try.prog ops Q rest (a.put o.dst undef) w') : wpList Try.prog ops Q (o :: rest) a w :=
  wpList_plain hgd fun _ hK => kwp_sm HK i p q ho hL hx hy fun w' h1 => hK _ _ (h w' h1)
theorem step_sm (HK : Hid (Kn b0 w0 w L R)) (i : Nat) (hgd : o.guard = none) (p q : Operand) (ho : o.op = .store 24 p q) (hL : L[i]? = some (g, 24, mC n s l m)) (hx : a.eval p = .pointer (some ⟨g, 0, none⟩)) (hy : a.eval q = .agg #[.int .i64 n2, .int .u64 (s2 : Int), .int .u64 (l2 : Int), .int .u64 (m2 : Int)])
    (h : ∀ w', Hid (Kn b0 w0 w' (L.set i (g, 24, mC n2 s2 l2 m2)) R) → K (a.put o.dst undef) w') : if Region.wanted o (yielded ops a.tmps) = true then Oper.wp Try.prog o a w K Q else E := by
  rw [if_pos (by simp [Region.wanted, hgd])]
  exact kwp_sm HK i p q ho hL hx hy h
theorem wpList_sa (HK : Hid (Kn b0 w0 w L R)) (i : Nat) (hgd : o.guard = none) (p q : Operand) (ho : o.op = .store 41 p q) (hL : L[i]? = some (g, 41, zrC)) (hx : a.eval p = .pointer (some ⟨g, 0, none⟩)) (hy : a.eval q = .agg (arC n s l m))
    (h : ∀ w', Hid (Kn b0 w0 w' (L.set i (g, 41, arC n s l m)) R) → wpList Try.prog ops Q rest (a.put o.dst undef) w') : wpList Try.prog ops Q (o :: rest) a w :=
  wpList_ss HK i hgd _ p q ho hL hx hy (by show 16 ≤ 16; decide) info_ar (by simp [arC, Value.oneCell']) fun w' h1 _ => h w' (by
    have e : putCells zrC 0 (arC n s l m).toList = arC n s l m := by
      rw [putCells_all (vs := (arC n s l m).toList) (cs := zrC) rfl, Array.toArray_toList]
    rw [e] at h1
    exact h1)
theorem kexec_lm (HK : Hid (Kn b0 w0 w L R)) (i : Nat) (x : Operand) (ho : o.op = .load 24 x) (hL : L[i]? = some (g, 24, mC n s l m)) (hx : a.eval x = .pointer (some ⟨g, 0, none⟩)) :
    (execOp a.eval o).run Try.prog w = .ok (.value (.agg #[.int .i64 n, .int .u64 (s : Int), .int .u64 (l : Int), .int .u64 (m : Int)])) w :=
  kexec_ls HK _ x ho i hL hx (mC n s l m) (fun j _ => by rw [Nat.zero_add]) Try.underlying24 info_m4
/-- A field of a block's meter. -/
theorem kexec_mn (HK : Hid (Kn b0 w0 w L R)) (i : Nat) (x : Operand) (ho : o.op = .load 3 x) (hL : L[i]? = some (g, 24, mC n s l m)) (hx : a.eval x = .pointer (some ⟨g, 0, none⟩)) :
    (execOp a.eval o).run Try.prog w = .ok (.value (.int .i64 n)) w :=
  kexec_lc HK 3 x ho i hL hx (v := .int .i64 n) rfl Try.underlying3 rfl
theorem kexec_ms (HK : Hid (Kn b0 w0 w L R)) (i : Nat) (x : Operand) (ho : o.op = .load 22 x) (hL : L[i]? = some (g, 24, mC n s l m)) (hx : a.eval x = .pointer (some ⟨g, 1, none⟩)) :
    (execOp a.eval o).run Try.prog w = .ok (.value (.int .u64 (s : Int))) w :=
  kexec_lc HK 22 x ho i hL hx (v := .int .u64 (s : Int)) rfl Try.underlying22 rfl
theorem kexec_ml (HK : Hid (Kn b0 w0 w L R)) (i : Nat) (x : Operand) (ho : o.op = .load 22 x) (hL : L[i]? = some (g, 24, mC n s l m)) (hx : a.eval x = .pointer (some ⟨g, 2, none⟩)) :
    (execOp a.eval o).run Try.prog w = .ok (.value (.int .u64 (l : Int))) w :=
  kexec_lc HK 22 x ho i hL hx (v := .int .u64 (l : Int)) rfl Try.underlying22 rfl
theorem kexec_mm (HK : Hid (Kn b0 w0 w L R)) (i : Nat) (x : Operand) (ho : o.op = .load 22 x) (hL : L[i]? = some (g, 24, mC n s l m)) (hx : a.eval x = .pointer (some ⟨g, 3, none⟩)) :
    (execOp a.eval o).run Try.prog w = .ok (.value (.int .u64 (m : Int))) w :=
  kexec_lc HK 22 x ho i hL hx (v := .int .u64 (m : Int)) rfl Try.underlying22 rfl
/-- The array's values, but the first. -/
theorem kexec_a1 (HK : Hid (Kn b0 w0 w L R)) (i : Nat) (x : Operand) (ho : o.op = .load 29 x) (hL : L[i]? = some (g, 41, arC n s l m)) (hx : a.eval x = .pointer (some ⟨g, 4, none⟩)) :
    (execOp a.eval o).run Try.prog w = .ok (.value (.agg #[.int .i64 2, .int .i64 0, .int .u64 (s : Int), .string ⟨#[]⟩])) w :=
  kexec_ls HK _ x ho i hL hx #[.int .i64 2, .int .i64 0, .int .u64 (s : Int), .string ⟨#[]⟩] (fun j hj => by
    match j, hj with
    | 0, _ => rfl
    | 1, _ => rfl
    | 2, _ => rfl
    | 3, _ => rfl) Try.underlying29 info_v4
theorem kexec_a2 (HK : Hid (Kn b0 w0 w L R)) (i : Nat) (x : Operand) (ho : o.op = .load 29 x) (hL : L[i]? = some (g, 41, arC n s l m)) (hx : a.eval x = .pointer (some ⟨g, 8, none⟩)) :
    (execOp a.eval o).run Try.prog w = .ok (.value (.agg #[.int .i64 2, .int .i64 0, .int .u64 (l : Int), .string ⟨#[]⟩])) w :=
  kexec_ls HK _ x ho i hL hx #[.int .i64 2, .int .i64 0, .int .u64 (l : Int), .string ⟨#[]⟩] (fun j hj => by
    match j, hj with
    | 0, _ => rfl
    | 1, _ => rfl
    | 2, _ => rfl
    | 3, _ => rfl) Try.underlying29 info_v4
theorem kexec_a3 (HK : Hid (Kn b0 w0 w L R)) (i : Nat) (x : Operand) (ho : o.op = .load 29 x) (hL : L[i]? = some (g, 41, arC n s l m)) (hx : a.eval x = .pointer (some ⟨g, 12, none⟩)) :
    (execOp a.eval o).run Try.prog w = .ok (.value (.agg #[.int .i64 2, .int .i64 0, .int .u64 (m : Int), .string ⟨#[]⟩])) w :=
  kexec_ls HK _ x ho i hL hx #[.int .i64 2, .int .i64 0, .int .u64 (m : Int), .string ⟨#[]⟩] (fun j hj => by
    match j, hj with
    | 0, _ => rfl
    | 1, _ => rfl
    | 2, _ => rfl
    | 3, _ => rfl) Try.underlying29 info_v4
/-- The float of a value's block. -/
theorem kexec_vf {k : Int} {f : Nat} {t : ByteArray} (HK : Hid (Kn b0 w0 w L R)) (i : Nat) (x : Operand) (ho : o.op = .load 22 x) (hL : L[i]? = some (g, 29, vC k n f t)) (hx : a.eval x = .pointer (some ⟨g, 2, none⟩)) :
    (execOp a.eval o).run Try.prog w = .ok (.value (.int .u64 (f : Int))) w :=
  kexec_lc HK 22 x ho i hL hx (v := .int .u64 (f : Int)) rfl Try.underlying22 rfl
theorem exec_ueq {x y : Nat} {b : Bool} (p q : Operand) (ho : o.op = .binOp .eql 22 p q 22) (hp : a.eval p = .int .u64 (x : Int)) (hq : a.eval q = .int .u64 (y : Int)) (hb : decide (x = y) = b) :
    (execOp a.eval o).run Try.prog w = .ok (.value (.bool b)) w := by
  have e : ((x : Int) == (y : Int)) = b := by
    rw [← hb, Bool.eq_iff_iff, beq_iff_eq, decide_eq_true_eq]; omega
  unfold execOp
  simp only [ho, hp, hq]
  go_simp
theorem exec_inc {x y : Int} (p : Operand) (ho : o.op = .binOp .add 3 p (.const (.int .i64 1)) 3) (hp : a.eval p = .int .i64 x) (hy : IntKind.i64.wrap (x + 1) = y) :
    (execOp a.eval o).run Try.prog w = .ok (.value (.int .i64 y)) w := by
  have he : a.eval (.const (.int .i64 1)) = .int .i64 1 := rfl
  unfold execOp
  simp only [ho, hp, he]
  go_simp
theorem meq_all (x y : Mtr) : decide (x = y) = (decide (x.n = y.n) && decide ((x.s : Int) = (y.s : Int)) && decide ((x.l : Int) = (y.l : Int)) && decide ((x.m : Int) = (y.m : Int))) := by
  obtain ⟨n, s, l, m⟩ := x
  obtain ⟨n', s', l', m'⟩ := y
  rw [Bool.eq_iff_iff]
  simp only [decide_eq_true_eq, Bool.and_eq_true, Mtr.mk.injEq, Int.natCast_inj, and_assoc]
theorem exec_meq {x y : Mtr} {b : Bool} (p q : Operand) (ho : o.op = .binOp .eql 24 p q 24) (hx : a.eval p = .agg #[.int .i64 x.n, .int .u64 (x.s : Int), .int .u64 (x.l : Int), .int .u64 (x.m : Int)]) (hy : a.eval q = .agg #[.int .i64 y.n, .int .u64 (y.s : Int), .int .u64 (y.l : Int), .int .u64 (y.m : Int)]) (hb : decide (x = y) = b) :
    (execOp a.eval o).run Try.prog w = .ok (.value (.bool b)) w := by
  rw [meq_all] at hb
  subst hb
  unfold execOp
  simp only [ho, hx, hy]
  go_simp
  by_cases h1 : x.n = y.n <;> by_cases h2 : (x.s : Int) = (y.s : Int) <;> by_cases h3 : (x.l : Int) = (y.l : Int) <;> by_cases h4 : (x.m : Int) = (y.m : Int) <;> simp [h1, h2, h3, h4]
end
/-- One out of an array. -/
theorem ix_ar0 (n : Int) (s l m : Nat) (w : World) : (Instr.index 41 (.agg #[.int .i64 1, .int .i64 n, .int .u64 0, .string ⟨#[]⟩, .int .i64 2, .int .i64 0, .int .u64 (s : Int), .string ⟨#[]⟩, .int .i64 2, .int .i64 0, .int .u64 (l : Int), .string ⟨#[]⟩, .int .i64 2, .int .i64 0, .int .u64 (m : Int), .string ⟨#[]⟩]) (.int .i64 0)).run Try.prog w = .ok (.agg #[.int .i64 1, .int .i64 n, .int .u64 0, .string ⟨#[]⟩]) w := by kernel_rfl
theorem ix_ar1 (n : Int) (s l m : Nat) (w : World) : (Instr.index 41 (.agg #[.int .i64 1, .int .i64 n, .int .u64 0, .string ⟨#[]⟩, .int .i64 2, .int .i64 0, .int .u64 (s : Int), .string ⟨#[]⟩, .int .i64 2, .int .i64 0, .int .u64 (l : Int), .string ⟨#[]⟩, .int .i64 2, .int .i64 0, .int .u64 (m : Int), .string ⟨#[]⟩]) (.int .i64 1)).run Try.prog w = .ok (.agg #[.int .i64 2, .int .i64 0, .int .u64 (s : Int), .string ⟨#[]⟩]) w := by kernel_rfl
theorem ix_ar2 (n : Int) (s l m : Nat) (w : World) : (Instr.index 41 (.agg #[.int .i64 1, .int .i64 n, .int .u64 0, .string ⟨#[]⟩, .int .i64 2, .int .i64 0, .int .u64 (s : Int), .string ⟨#[]⟩, .int .i64 2, .int .i64 0, .int .u64 (l : Int), .string ⟨#[]⟩, .int .i64 2, .int .i64 0, .int .u64 (m : Int), .string ⟨#[]⟩]) (.int .i64 2)).run Try.prog w = .ok (.agg #[.int .i64 2, .int .i64 0, .int .u64 (l : Int), .string ⟨#[]⟩]) w := by kernel_rfl
theorem ix_ar3 (n : Int) (s l m : Nat) (w : World) : (Instr.index 41 (.agg #[.int .i64 1, .int .i64 n, .int .u64 0, .string ⟨#[]⟩, .int .i64 2, .int .i64 0, .int .u64 (s : Int), .string ⟨#[]⟩, .int .i64 2, .int .i64 0, .int .u64 (l : Int), .string ⟨#[]⟩, .int .i64 2, .int .i64 0, .int .u64 (m : Int), .string ⟨#[]⟩]) (.int .i64 3)).run Try.prog w = .ok (.agg #[.int .i64 2, .int .i64 0, .int .u64 (m : Int), .string ⟨#[]⟩]) w := by kernel_rfl
theorem ix_th0 (s l m : Nat) (w : World) : (Instr.index 43 (.agg #[.int .u64 (s : Int), .int .u64 (l : Int), .int .u64 (m : Int)]) (.int .i64 0)).run Try.prog w = .ok (.int .u64 (s : Int)) w := by kernel_rfl
theorem ix_th1 (s l m : Nat) (w : World) : (Instr.index 43 (.agg #[.int .u64 (s : Int), .int .u64 (l : Int), .int .u64 (m : Int)]) (.int .i64 1)).run Try.prog w = .ok (.int .u64 (l : Int)) w := by kernel_rfl
theorem ix_th2 (s l m : Nat) (w : World) : (Instr.index 43 (.agg #[.int .u64 (s : Int), .int .u64 (l : Int), .int .u64 (m : Int)]) (.int .i64 2)).run Try.prog w = .ok (.int .u64 (m : Int)) w := by kernel_rfl
def IsVe (y : Mt.Rd) (w : World) (e : Ending) (w' : World) : Prop := e = .returned (.tuple #[.agg #[.int .i64 y.k, .int .i64 y.n, .int .u64 (y.f : Int), .string ⟨#[]⟩], .int .i64 y.e]) ∧ Below w.heap.size w w'
theorem add_below (a b : Nat) (w : World) (ha : a < 18446744073709551616) (hb : b < 18446744073709551616) :
    Calls Try.prog 17 #[.int .u64 a, .int .u64 b] w fun e w' => e = .returned (.int .u64 (Num.S a b : Nat)) ∧ Below w.heap.size w w' :=
  (add_any a b w ha hb).mono fun e w' ⟨h1, n, h2⟩ => ⟨h1, by subst h2; exact ⟨rfl, rfl, rfl, Nat.le_refl _, fun _ _ => rfl⟩⟩
theorem radd_below (a b : Nat) (w : World) :
    Calls Try.prog 20 #[.int .u64 a, .int .u64 b] w fun e w' => e = .returned (.int .u64 (Num.S a b : Nat)) ∧ Below w.heap.size w w' :=
  (radd_any a b w).mono fun e w' ⟨h1, n, h2⟩ => ⟨h1, by subst h2; exact ⟨rfl, rfl, rfl, Nat.le_refl _, fun _ _ => rfl⟩⟩
theorem ueq_self (x : Nat) : decide (x = x) = true := decide_eq_true rfl
def IsMe (y : Mtr) (x : Int) (w : World) (e : Ending) (w' : World) : Prop := e = .returned (.tuple #[.agg #[.int .i64 y.n, .int .u64 (y.s : Int), .int .u64 (y.l : Int), .int .u64 (y.m : Int)], .int .i64 x]) ∧ Below w.heap.size w w'
theorem meq_self (x : Mtr) : decide (x = x) = true := decide_eq_true rfl
/-- Ways out. -/
theorem ret_me {fn : Func} {R : Ending → World → Prop} {a : Act} {w : World} {B : Nat} {n : Int} {s l m : Nat} {u : Value} {q q2 : Tmp} (hf : fn.results = #[.cell q 24, .tmp q2]) (h2 : a.tmps[q]? = some (.pointer (some ⟨B, 0, none⟩))) (h3 : a.tmps[q2]? = some u) (hd : a.defers = []) (hb : Blk w B 24 (mC n s l m))
    (hR : R (.returned (.tuple #[.agg #[.int .i64 n, .int .u64 (s : Int), .int .u64 (l : Int), .int .u64 (m : Int)], u])) w) : bodyPost Try.prog fn R Exit.ret a w := by
  refine bodyPost_ret (v := .tuple #[.agg #[.int .i64 n, .int .u64 (s : Int), .int .u64 (l : Int), .int .u64 (m : Int)], u]) ?_ hd hR
  have h : (loadVar 24 ⟨B, 0, none⟩).run Try.prog w = .ok (.agg (mC n s l m)) w := run_loadVar_row (P := Try.prog) w B _ _ _ (0, 0) _ hb Try.underlying24 rfl info_m4
  unfold mC at h
  simp [results, hf, asAddr, Sem.run_bind, h2, h3, h]
theorem ret_va {fn : Func} {R : Ending → World → Prop} {a : Act} {w : World} {B : Nat} {k n : Int} {f : Nat} {s : ByteArray} {u : Value} {q q2 : Tmp} (hf : fn.results = #[.cell q 29, .tmp q2]) (h2 : a.tmps[q]? = some (.pointer (some ⟨B, 0, none⟩))) (h3 : a.tmps[q2]? = some u) (hd : a.defers = []) (hb : Blk w B 29 (vC k n f s))
    (hR : R (.returned (.tuple #[.agg #[.int .i64 k, .int .i64 n, .int .u64 (f : Int), .string s], u])) w) : bodyPost Try.prog fn R Exit.ret a w := by
  refine bodyPost_ret (v := .tuple #[.agg #[.int .i64 k, .int .i64 n, .int .u64 (f : Int), .string s], u]) ?_ hd hR
  have h : (loadVar 29 ⟨B, 0, none⟩).run Try.prog w = .ok (.agg (vC k n f s)) w := run_loadVar_row (P := Try.prog) w B _ _ _ (0, 0) _ hb Try.underlying29 rfl info_v4
  unfold vC at h
  simp [results, hf, asAddr, Sem.run_bind, h2, h3, h]
def mL (x : Mtr) : List Value := [.int .i64 x.n, .int .u64 (x.s : Int), .int .u64 (x.l : Int), .int .u64 (x.m : Int)]
section
variable {H : Type} {enc : TypeId × Value → H} {W : World} {base : Nat}
theorem cells_mt : Try.prog.cellsOf 24 = 4 := by kernel_rfl
theorem opens_mt : OpensT enc 24 mL Mt.Fit := fun W n cs x ht => by
  obtain ⟨ys, m, _, hx, hlen, hyl, hf⟩ := DataW.trod_struct Try.underlying24 ht
  have hlen : cs.length = Try.prog.cellsOf 24 := hlen
  rw [cells_mt] at hlen
  match cs, hlen, ys, hyl with
  | [v0, v1, v2, v3], _, [y0, y1, y2, y3], _ =>
    have f0 := hf 0 _ rfl
    have f1 := hf 1 _ rfl
    have f2 := hf 2 _ rfl
    have f3 := hf 3 _ rfl
    simp only [List.getElem?_cons_zero, List.getElem?_cons_succ] at f0 f1 f2 f3
    obtain ⟨a0, e0, _, w0⟩ := DataW.trod_int Try.underlying3 f0
    obtain ⟨a1, e1, _, w1⟩ := DataW.trod_int Try.underlying22 f1
    obtain ⟨a2, e2, _, w2⟩ := DataW.trod_int Try.underlying22 f2
    obtain ⟨a3, e3, _, w3⟩ := DataW.trod_int Try.underlying22 f3
    cases e0; cases e1; cases e2; cases e3
    obtain ⟨u1, rfl, hu1⟩ := u64_lt w1
    obtain ⟨u2, rfl, hu2⟩ := u64_lt w2
    obtain ⟨u3, rfl, hu3⟩ := u64_lt w3
    exact ⟨⟨a0, u1, u2, u3⟩, rfl, by have := bounds_i64 w0; show a0 ≤ _; omega, hu1, hu2, hu3⟩
end
end Go.Proofs.Ytbaaoenmnmpfjaa
