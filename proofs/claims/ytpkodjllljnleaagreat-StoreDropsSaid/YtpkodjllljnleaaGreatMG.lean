/- What meter.told returns: all that may be asked of a meter, each in its place; the memory behind it has two blocks more. No condition but those named. -/
import Derived.Test.YtpkodjllljnleaaGreatTk
import Derived.Test.YtpkodjllljnleaaGreatMD
import Derived.Test.YtpkodjllljnleaaGreatMB
import Derived.Test.YtpkodjllljnleaaGreatME
import Derived.Deep.RegionWith
import Derived.Deep.RegionHeld3
import Derived.Deep.Draws
import Derived.Lib.Hide
set_option linter.unusedSimpArgs false
set_option linter.unusedVariables false
namespace Go.Proofs.YtpkodjllljnleaaGreat
open Go.RowKit
theorem info_ar : (Tryz.prog.info? 152).map (·.size) = some 16 := by kernel_rfl
theorem ret_ar {fn : Func} {R : Ending → World → Prop} {a : Act} {w : World} {B : Nat} {cs : Array Value} {q : Tmp} (hf : fn.results = #[.cell q 152]) (h2 : a.tmps[q]? = some (.pointer (some ⟨B, 0, none⟩))) (hd : a.defers = []) (hb : Blk w B 152 cs) (hs : cs.size = 16)
  (hR : R (.returned (.agg cs)) w) : bodyPost Tryz.prog fn R Exit.ret a w :=
 bodyPost_ret (results_cell_row hf a.tmps w B _ _ (0, 0) _ (by simp [h2]) hb Tryz.underlying152 rfl (by rw [hs]; exact info_ar)) hd hR
theorem blk2 (w : World) (t1 t2 : TypeId) (c1 c2 : Array Value) : Blk ((w.alloc (.cells c1 t1)).alloc (.cells c2 t2)) (w.heap.size + 1) t2 c2 := by
 have h := Blk.new (w.alloc (.cells c1 t1)) t2 c2
 rwa [World.size_alloc] at h
set_option maxRecDepth 100000 in
set_option maxHeartbeats 3200000 in
theorem told_any (n : Int) (s l m : Nat) (w : World) :
  Calls Tryz.prog 120 #[.agg #[.int .i64 n, .int .u64 (s : Int), .int .u64 (l : Int), .int .u64 (m : Int)]] w (fun e w' => e = .returned (.agg #[.int .i64 1, .int .i64 n, .int .u64 0, .string ⟨#[]⟩, .int .i64 2, .int .i64 0, .int .u64 (s : Int), .string ⟨#[]⟩, .int .i64 2, .int .i64 0, .int .u64 (l : Int), .string ⟨#[]⟩, .int .i64 2, .int .i64 0, .int .u64 (m : Int), .string ⟨#[]⟩]) ∧
   w' = (w.alloc (.cells #[.int .i64 n, .int .u64 (s : Int), .int .u64 (l : Int), .int .u64 (m : Int)] 53)).alloc (.cells #[.int .i64 1, .int .i64 n, .int .u64 0, .string ⟨#[]⟩, .int .i64 2, .int .i64 0, .int .u64 (s : Int), .string ⟨#[]⟩, .int .i64 2, .int .i64 0, .int .u64 (l : Int), .string ⟨#[]⟩, .int .i64 2, .int .i64 0, .int .u64 (m : Int), .string ⟨#[]⟩] 152)) := by
 go_enter Tryz.func120, Tryz.ntmps120
 go_wp2_with fail
 refine ret_ar (B := w.heap.size + 1) Tryz.results120 rfl rfl (blk2 _ _ _ _ _) rfl ⟨rfl, rfl⟩
end Go.Proofs.YtpkodjllljnleaaGreat
set_option maxRecDepth 100000
namespace Go.Proofs.YtpkodjllljnleaaGreat
open Go.ChangeShapes Go.WideShapes Go.Deep Go.RowKit
def mC (n : Int) (s l m : Nat) : Array Value := #[.int .i64 n, .int .u64 (s : Int), .int .u64 (l : Int), .int .u64 (m : Int)]
def arC (n : Int) (s l m : Nat) : Array Value := #[.int .i64 1, .int .i64 n, .int .u64 0, .string ⟨#[]⟩, .int .i64 2, .int .i64 0, .int .u64 (s : Int), .string ⟨#[]⟩, .int .i64 2, .int .i64 0, .int .u64 (l : Int), .string ⟨#[]⟩, .int .i64 2, .int .i64 0, .int .u64 (m : Int), .string ⟨#[]⟩]
def zrC : Array Value := #[.int .i64 0, .int .i64 0, .int .u64 0, .string ⟨#[]⟩, .int .i64 0, .int .i64 0, .int .u64 0, .string ⟨#[]⟩, .int .i64 0, .int .i64 0, .int .u64 0, .string ⟨#[]⟩, .int .i64 0, .int .i64 0, .int .u64 0, .string ⟨#[]⟩]
theorem info_m4 : (Tryz.prog.info? 53).map (·.size) = some 4 := by kernel_rfl
theorem told_ar (n : Int) (s l m : Nat) (w : World) :
  Calls Tryz.prog 120 #[.agg #[.int .i64 n, .int .u64 (s : Int), .int .u64 (l : Int), .int .u64 (m : Int)]] w (fun e w' => e = .returned (.agg (arC n s l m)) ∧ Below w.heap.size w w') :=
 (told_any n s l m w).mono fun e w' ⟨h1, h2⟩ => ⟨h1, by subst h2; go_grown⟩
section
variable {b0 : Nat} {w0 w : World} {L : List (Nat × TypeId × Array Value)} {R : List RowE} {ops : Array Oper} {rest : List Oper} {o : Oper} {a : Act} {Q : Exit → Act → World → Prop} {K : Act → World → Prop} {E : Prop} {g : Nat} {n n2 : Int} {s l m s2 l2 m2 : Nat}
theorem wpList_aka (HK : Hid (Kn b0 w0 w L R)) (hgd : o.guard = none) (ho : o.op = .alloc 152)
  (h : ∀ w' g, Hid (Kn b0 w0 w' (L ++ [(g, 152, zrC)]) R) → wpList Tryz.prog ops Q rest (a.put o.dst (.pointer (some ⟨g, 0, none⟩))) w') : wpList Tryz.prog ops Q (o :: rest) a w :=
 wpList_plain hgd fun K hK => by
  have h4 := h _ w.heap.size (zH (HK.out.alloc _ _))
  unfold Oper.wp execOp
  simp only [ho]
  unfold zrC at h4
  go_simp
  exact hK _ _ h4
theorem kwp_sm (HK : Hid (Kn b0 w0 w L R)) (i : Nat) (p q : Operand) (ho : o.op = .store 53 p q) (hL : L[i]? = some (g, 53, mC n s l m)) (hx : a.eval p = .pointer (some ⟨g, 0, none⟩)) (hy : a.eval q = .agg #[.int .i64 n2, .int .u64 (s2 : Int), .int .u64 (l2 : Int), .int .u64 (m2 : Int)])
  (h : ∀ w', Hid (Kn b0 w0 w' (L.set i (g, 53, mC n2 s2 l2 m2)) R) → K (a.put o.dst undef) w') : o.wp Tryz.prog a w K Q :=
 kwp_ss HK _ p q ho i hL hx hy (by show 4 ≤ 4; decide) info_m4 (by simp [Value.oneCell']) fun w' h1 _ => h w' (by
  have e : putCells (mC n s l m) 0 (#[Value.int .i64 n2, .int .u64 (s2 : Int), .int .u64 (l2 : Int), .int .u64 (m2 : Int)] : Array Value).toList = mC n2 s2 l2 m2 := by
   show putCells (mC n s l m) 0 (mC n2 s2 l2 m2).toList = mC n2 s2 l2 m2
   rw [putCells_all (vs := (mC n2 s2 l2 m2).toList) (cs := mC n s l m) rfl, Array.toArray_toList]
  rw [e] at h1
  exact h1)
theorem wpList_sm (HK : Hid (Kn b0 w0 w L R)) (i : Nat) (hgd : o.guard = none) (p q : Operand) (ho : o.op = .store 53 p q) (hL : L[i]? = some (g, 53, mC n s l m)) (hx : a.eval p = .pointer (some ⟨g, 0, none⟩)) (hy : a.eval q = .agg #[.int .i64 n2, .int .u64 (s2 : Int), .int .u64 (l2 : Int), .int .u64 (m2 : Int)])
  (h : ∀ w', Hid (Kn b0 w0 w' (L.set i (g, 53, mC n2 s2 l2 m2)) R) → wpList Tryz.prog ops Q rest (a.put o.dst undef) w') : wpList Tryz.prog ops Q (o :: rest) a w :=
 wpList_plain hgd fun _ hK => kwp_sm HK i p q ho hL hx hy fun w' h1 => hK _ _ (h w' h1)
theorem step_sm (HK : Hid (Kn b0 w0 w L R)) (i : Nat) (hgd : o.guard = none) (p q : Operand) (ho : o.op = .store 53 p q) (hL : L[i]? = some (g, 53, mC n s l m)) (hx : a.eval p = .pointer (some ⟨g, 0, none⟩)) (hy : a.eval q = .agg #[.int .i64 n2, .int .u64 (s2 : Int), .int .u64 (l2 : Int), .int .u64 (m2 : Int)])
  (h : ∀ w', Hid (Kn b0 w0 w' (L.set i (g, 53, mC n2 s2 l2 m2)) R) → K (a.put o.dst undef) w') : if Region.wanted o (yielded ops a.tmps) = true then Oper.wp Tryz.prog o a w K Q else E := by
 rw [if_pos (by simp [Region.wanted, hgd])]
 exact kwp_sm HK i p q ho hL hx hy h
theorem wpList_sa (HK : Hid (Kn b0 w0 w L R)) (i : Nat) (hgd : o.guard = none) (p q : Operand) (ho : o.op = .store 152 p q) (hL : L[i]? = some (g, 152, zrC)) (hx : a.eval p = .pointer (some ⟨g, 0, none⟩)) (hy : a.eval q = .agg (arC n s l m))
  (h : ∀ w', Hid (Kn b0 w0 w' (L.set i (g, 152, arC n s l m)) R) → wpList Tryz.prog ops Q rest (a.put o.dst undef) w') : wpList Tryz.prog ops Q (o :: rest) a w :=
 wpList_ss HK i hgd _ p q ho hL hx hy (by show 16 ≤ 16; decide) info_ar (by simp [arC, Value.oneCell']) fun w' h1 _ => h w' (by
  have e : putCells zrC 0 (arC n s l m).toList = arC n s l m := by
   rw [putCells_all (vs := (arC n s l m).toList) (cs := zrC) rfl, Array.toArray_toList]
  rw [e] at h1
  exact h1)
theorem kexec_lm (HK : Hid (Kn b0 w0 w L R)) (i : Nat) (x : Operand) (ho : o.op = .load 53 x) (hL : L[i]? = some (g, 53, mC n s l m)) (hx : a.eval x = .pointer (some ⟨g, 0, none⟩)) :
  (execOp a.eval o).run Tryz.prog w = .ok (.value (.agg #[.int .i64 n, .int .u64 (s : Int), .int .u64 (l : Int), .int .u64 (m : Int)])) w :=
 kexec_ls HK _ x ho i hL hx (mC n s l m) (fun j _ => by rw [Nat.zero_add]) Tryz.underlying53 info_m4
theorem kexec_mn (HK : Hid (Kn b0 w0 w L R)) (i : Nat) (x : Operand) (ho : o.op = .load 3 x) (hL : L[i]? = some (g, 53, mC n s l m)) (hx : a.eval x = .pointer (some ⟨g, 0, none⟩)) :
  (execOp a.eval o).run Tryz.prog w = .ok (.value (.int .i64 n)) w :=
 kexec_lc HK 3 x ho i hL hx (v := .int .i64 n) rfl Tryz.underlying3 rfl
theorem kexec_ms (HK : Hid (Kn b0 w0 w L R)) (i : Nat) (x : Operand) (ho : o.op = .load 25 x) (hL : L[i]? = some (g, 53, mC n s l m)) (hx : a.eval x = .pointer (some ⟨g, 1, none⟩)) :
  (execOp a.eval o).run Tryz.prog w = .ok (.value (.int .u64 (s : Int))) w :=
 kexec_lc HK 25 x ho i hL hx (v := .int .u64 (s : Int)) rfl Tryz.underlying25 rfl
theorem kexec_ml (HK : Hid (Kn b0 w0 w L R)) (i : Nat) (x : Operand) (ho : o.op = .load 25 x) (hL : L[i]? = some (g, 53, mC n s l m)) (hx : a.eval x = .pointer (some ⟨g, 2, none⟩)) :
  (execOp a.eval o).run Tryz.prog w = .ok (.value (.int .u64 (l : Int))) w :=
 kexec_lc HK 25 x ho i hL hx (v := .int .u64 (l : Int)) rfl Tryz.underlying25 rfl
theorem kexec_mm (HK : Hid (Kn b0 w0 w L R)) (i : Nat) (x : Operand) (ho : o.op = .load 25 x) (hL : L[i]? = some (g, 53, mC n s l m)) (hx : a.eval x = .pointer (some ⟨g, 3, none⟩)) :
  (execOp a.eval o).run Tryz.prog w = .ok (.value (.int .u64 (m : Int))) w :=
 kexec_lc HK 25 x ho i hL hx (v := .int .u64 (m : Int)) rfl Tryz.underlying25 rfl
theorem kexec_a1 (HK : Hid (Kn b0 w0 w L R)) (i : Nat) (x : Operand) (ho : o.op = .load 27 x) (hL : L[i]? = some (g, 152, arC n s l m)) (hx : a.eval x = .pointer (some ⟨g, 4, none⟩)) :
  (execOp a.eval o).run Tryz.prog w = .ok (.value (.agg #[.int .i64 2, .int .i64 0, .int .u64 (s : Int), .string ⟨#[]⟩])) w :=
 kexec_ls HK _ x ho i hL hx #[.int .i64 2, .int .i64 0, .int .u64 (s : Int), .string ⟨#[]⟩] (fun j hj => by
  match j, hj with
  | 0, _ => rfl
  | 1, _ => rfl
  | 2, _ => rfl
  | 3, _ => rfl) Tryz.underlying27 info_v4
theorem kexec_a2 (HK : Hid (Kn b0 w0 w L R)) (i : Nat) (x : Operand) (ho : o.op = .load 27 x) (hL : L[i]? = some (g, 152, arC n s l m)) (hx : a.eval x = .pointer (some ⟨g, 8, none⟩)) :
  (execOp a.eval o).run Tryz.prog w = .ok (.value (.agg #[.int .i64 2, .int .i64 0, .int .u64 (l : Int), .string ⟨#[]⟩])) w :=
 kexec_ls HK _ x ho i hL hx #[.int .i64 2, .int .i64 0, .int .u64 (l : Int), .string ⟨#[]⟩] (fun j hj => by
  match j, hj with
  | 0, _ => rfl
  | 1, _ => rfl
  | 2, _ => rfl
  | 3, _ => rfl) Tryz.underlying27 info_v4
theorem kexec_a3 (HK : Hid (Kn b0 w0 w L R)) (i : Nat) (x : Operand) (ho : o.op = .load 27 x) (hL : L[i]? = some (g, 152, arC n s l m)) (hx : a.eval x = .pointer (some ⟨g, 12, none⟩)) :
  (execOp a.eval o).run Tryz.prog w = .ok (.value (.agg #[.int .i64 2, .int .i64 0, .int .u64 (m : Int), .string ⟨#[]⟩])) w :=
 kexec_ls HK _ x ho i hL hx #[.int .i64 2, .int .i64 0, .int .u64 (m : Int), .string ⟨#[]⟩] (fun j hj => by
  match j, hj with
  | 0, _ => rfl
  | 1, _ => rfl
  | 2, _ => rfl
  | 3, _ => rfl) Tryz.underlying27 info_v4
theorem kexec_vf {k : Int} {f : Nat} {t : ByteArray} (HK : Hid (Kn b0 w0 w L R)) (i : Nat) (x : Operand) (ho : o.op = .load 25 x) (hL : L[i]? = some (g, 27, vC k n f t)) (hx : a.eval x = .pointer (some ⟨g, 2, none⟩)) :
  (execOp a.eval o).run Tryz.prog w = .ok (.value (.int .u64 (f : Int))) w :=
 kexec_lc HK 25 x ho i hL hx (v := .int .u64 (f : Int)) rfl Tryz.underlying25 rfl
theorem exec_ueq {x y : Nat} {b : Bool} (p q : Operand) (ho : o.op = .binOp .eql 25 p q 25) (hp : a.eval p = .int .u64 (x : Int)) (hq : a.eval q = .int .u64 (y : Int)) (hb : decide (x = y) = b) :
  (execOp a.eval o).run Tryz.prog w = .ok (.value (.bool b)) w := by
 have e : ((x : Int) == (y : Int)) = b := by
  rw [← hb, Bool.eq_iff_iff, beq_iff_eq, decide_eq_true_eq]; omega
 unfold execOp
 simp only [ho, hp, hq]
 go_simp
theorem exec_inc {x y : Int} (p : Operand) (ho : o.op = .binOp .add 3 p (.const (.int .i64 1)) 3) (hp : a.eval p = .int .i64 x) (hy : IntKind.i64.wrap (x + 1) = y) :
  (execOp a.eval o).run Tryz.prog w = .ok (.value (.int .i64 y)) w := by
 have he : a.eval (.const (.int .i64 1)) = .int .i64 1 := rfl
 unfold execOp
 simp only [ho, hp, he]
 go_simp
theorem meq_all (x y : Mtr) : decide (x = y) = (decide (x.n = y.n) && decide ((x.s : Int) = (y.s : Int)) && decide ((x.l : Int) = (y.l : Int)) && decide ((x.m : Int) = (y.m : Int))) := by
 obtain ⟨n, s, l, m⟩ := x
 obtain ⟨n', s', l', m'⟩ := y
 rw [Bool.eq_iff_iff]
 simp only [decide_eq_true_eq, Bool.and_eq_true, Mtr.mk.injEq, Int.natCast_inj, and_assoc]
theorem exec_meq {x y : Mtr} {b : Bool} (p q : Operand) (ho : o.op = .binOp .eql 53 p q 53) (hx : a.eval p = .agg #[.int .i64 x.n, .int .u64 (x.s : Int), .int .u64 (x.l : Int), .int .u64 (x.m : Int)]) (hy : a.eval q = .agg #[.int .i64 y.n, .int .u64 (y.s : Int), .int .u64 (y.l : Int), .int .u64 (y.m : Int)]) (hb : decide (x = y) = b) :
  (execOp a.eval o).run Tryz.prog w = .ok (.value (.bool b)) w := by
 rw [meq_all] at hb
 subst hb
 unfold execOp
 simp only [ho, hx, hy]
 go_simp
 by_cases h1 : x.n = y.n <;> by_cases h2 : (x.s : Int) = (y.s : Int) <;> by_cases h3 : (x.l : Int) = (y.l : Int) <;> by_cases h4 : (x.m : Int) = (y.m : Int) <;> simp [h1, h2, h3, h4]
end
theorem ix_ar0 (n : Int) (s l m : Nat) (w : World) : (Instr.index 152 (.agg #[.int .i64 1, .int .i64 n, .int .u64 0, .string ⟨#[]⟩, .int .i64 2, .int .i64 0, .int .u64 (s : Int), .string ⟨#[]⟩, .int .i64 2, .int .i64 0, .int .u64 (l : Int), .string ⟨#[]⟩, .int .i64 2, .int .i64 0, .int .u64 (m : Int), .string ⟨#[]⟩]) (.int .i64 0)).run Tryz.prog w = .ok (.agg #[.int .i64 1, .int .i64 n, .int .u64 0, .string ⟨#[]⟩]) w := by kernel_rfl
theorem ix_ar1 (n : Int) (s l m : Nat) (w : World) : (Instr.index 152 (.agg #[.int .i64 1, .int .i64 n, .int .u64 0, .string ⟨#[]⟩, .int .i64 2, .int .i64 0, .int .u64 (s : Int), .string ⟨#[]⟩, .int .i64 2, .int .i64 0, .int .u64 (l : Int), .string ⟨#[]⟩, .int .i64 2, .int .i64 0, .int .u64 (m : Int), .string ⟨#[]⟩]) (.int .i64 1)).run Tryz.prog w = .ok (.agg #[.int .i64 2, .int .i64 0, .int .u64 (s : Int), .string ⟨#[]⟩]) w := by kernel_rfl
theorem ix_ar2 (n : Int) (s l m : Nat) (w : World) : (Instr.index 152 (.agg #[.int .i64 1, .int .i64 n, .int .u64 0, .string ⟨#[]⟩, .int .i64 2, .int .i64 0, .int .u64 (s : Int), .string ⟨#[]⟩, .int .i64 2, .int .i64 0, .int .u64 (l : Int), .string ⟨#[]⟩, .int .i64 2, .int .i64 0, .int .u64 (m : Int), .string ⟨#[]⟩]) (.int .i64 2)).run Tryz.prog w = .ok (.agg #[.int .i64 2, .int .i64 0, .int .u64 (l : Int), .string ⟨#[]⟩]) w := by kernel_rfl
theorem ix_ar3 (n : Int) (s l m : Nat) (w : World) : (Instr.index 152 (.agg #[.int .i64 1, .int .i64 n, .int .u64 0, .string ⟨#[]⟩, .int .i64 2, .int .i64 0, .int .u64 (s : Int), .string ⟨#[]⟩, .int .i64 2, .int .i64 0, .int .u64 (l : Int), .string ⟨#[]⟩, .int .i64 2, .int .i64 0, .int .u64 (m : Int), .string ⟨#[]⟩]) (.int .i64 3)).run Tryz.prog w = .ok (.agg #[.int .i64 2, .int .i64 0, .int .u64 (m : Int), .string ⟨#[]⟩]) w := by kernel_rfl
def IsVe (y : Mt.Rd) (w : World) (e : Ending) (w' : World) : Prop := e = .returned (.tuple #[.agg #[.int .i64 y.k, .int .i64 y.n, .int .u64 (y.f : Int), .string ⟨#[]⟩], .int .i64 y.e]) ∧ Below w.heap.size w w'
theorem add_below (a b : Nat) (w : World) (ha : a < 18446744073709551616) (hb : b < 18446744073709551616) :
  Calls Tryz.prog 117 #[.int .u64 a, .int .u64 b] w fun e w' => e = .returned (.int .u64 (Num.S a b : Nat)) ∧ Below w.heap.size w w' :=
 (add_any a b w ha hb).mono fun e w' ⟨h1, n, h2⟩ => ⟨h1, by subst h2; exact ⟨rfl, rfl, rfl, Nat.le_refl _, fun _ _ => rfl⟩⟩
theorem ueq_self (x : Nat) : decide (x = x) = true := decide_eq_true rfl
def IsMe (y : Mtr) (x : Int) (w : World) (e : Ending) (w' : World) : Prop := e = .returned (.tuple #[.agg #[.int .i64 y.n, .int .u64 (y.s : Int), .int .u64 (y.l : Int), .int .u64 (y.m : Int)], .int .i64 x]) ∧ Below w.heap.size w w'
theorem ret_me {fn : Func} {R : Ending → World → Prop} {a : Act} {w : World} {B : Nat} {n : Int} {s l m : Nat} {u : Value} {q q2 : Tmp} (hf : fn.results = #[.cell q 53, .tmp q2]) (h2 : a.tmps[q]? = some (.pointer (some ⟨B, 0, none⟩))) (h3 : a.tmps[q2]? = some u) (hd : a.defers = []) (hb : Blk w B 53 (mC n s l m))
  (hR : R (.returned (.tuple #[.agg #[.int .i64 n, .int .u64 (s : Int), .int .u64 (l : Int), .int .u64 (m : Int)], u])) w) : bodyPost Tryz.prog fn R Exit.ret a w := by
 refine bodyPost_ret (v := .tuple #[.agg #[.int .i64 n, .int .u64 (s : Int), .int .u64 (l : Int), .int .u64 (m : Int)], u]) ?_ hd hR
 have h : (loadVar 53 ⟨B, 0, none⟩).run Tryz.prog w = .ok (.agg (mC n s l m)) w := run_loadVar_row (P := Tryz.prog) w B _ _ _ (0, 0) _ hb Tryz.underlying53 rfl info_m4
 unfold mC at h
 simp [results, hf, asAddr, Sem.run_bind, h2, h3, h]
theorem ret_va {fn : Func} {R : Ending → World → Prop} {a : Act} {w : World} {B : Nat} {k n : Int} {f : Nat} {s : ByteArray} {u : Value} {q q2 : Tmp} (hf : fn.results = #[.cell q 27, .tmp q2]) (h2 : a.tmps[q]? = some (.pointer (some ⟨B, 0, none⟩))) (h3 : a.tmps[q2]? = some u) (hd : a.defers = []) (hb : Blk w B 27 (vC k n f s))
  (hR : R (.returned (.tuple #[.agg #[.int .i64 k, .int .i64 n, .int .u64 (f : Int), .string s], u])) w) : bodyPost Tryz.prog fn R Exit.ret a w := by
 refine bodyPost_ret (v := .tuple #[.agg #[.int .i64 k, .int .i64 n, .int .u64 (f : Int), .string s], u]) ?_ hd hR
 have h : (loadVar 27 ⟨B, 0, none⟩).run Tryz.prog w = .ok (.agg (vC k n f s)) w := run_loadVar_row (P := Tryz.prog) w B _ _ _ (0, 0) _ hb Tryz.underlying27 rfl info_v4
 unfold vC at h
 simp [results, hf, asAddr, Sem.run_bind, h2, h3, h]
def mL (x : Mtr) : List Value := [.int .i64 x.n, .int .u64 (x.s : Int), .int .u64 (x.l : Int), .int .u64 (x.m : Int)]
section
variable {H : Type} {enc : TypeId × Value → H} {W : World} {base : Nat}
theorem cells_mt : Tryz.prog.cellsOf 53 = 4 := by kernel_rfl
theorem opens_mt : OpensT enc 53 mL Mt.Fit := fun W n cs x ht => by
 obtain ⟨ys, m, _, hx, hlen, hyl, hf⟩ := DataW.trod_struct Tryz.underlying53 ht
 have hlen : cs.length = Tryz.prog.cellsOf 53 := hlen
 rw [cells_mt] at hlen
 match cs, hlen, ys, hyl with
 | [v0, v1, v2, v3], _, [y0, y1, y2, y3], _ =>
  have f0 := hf 0 _ rfl
  have f1 := hf 1 _ rfl
  have f2 := hf 2 _ rfl
  have f3 := hf 3 _ rfl
  simp only [List.getElem?_cons_zero, List.getElem?_cons_succ] at f0 f1 f2 f3
  obtain ⟨a0, e0, _, w0⟩ := DataW.trod_int Tryz.underlying3 f0
  obtain ⟨a1, e1, _, w1⟩ := DataW.trod_int Tryz.underlying25 f1
  obtain ⟨a2, e2, _, w2⟩ := DataW.trod_int Tryz.underlying25 f2
  obtain ⟨a3, e3, _, w3⟩ := DataW.trod_int Tryz.underlying25 f3
  cases e0; cases e1; cases e2; cases e3
  obtain ⟨u1, rfl, hu1⟩ := u64_lt w1
  obtain ⟨u2, rfl, hu2⟩ := u64_lt w2
  obtain ⟨u3, rfl, hu3⟩ := u64_lt w3
  exact ⟨⟨a0, u1, u2, u3⟩, rfl, by have := bounds_i64 w0; show a0 ≤ _; omega, hu1, hu2, hu3⟩
end
end Go.Proofs.YtpkodjllljnleaaGreat
namespace Go.Proofs.YtpkodjllljnleaaGreat
open Go.RowKit
set_option maxRecDepth 100000 in
set_option maxHeartbeats 3200000 in
theorem mright_any (x : Mtr) (hf : Mt.Fit x) (w : World) :
  Calls Tryz.prog 93 #[.agg #[.int .i64 x.n, .int .u64 (x.s : Int), .int .u64 (x.l : Int), .int .u64 (x.m : Int)]] w (IsB (decide (Mt.Ok x)) w) := by
 obtain ⟨n, s, l, m⟩ := x
 obtain ⟨_, f1, f2, f3⟩ := hf
 dsimp only at f1 f2 f3
 have H1 := zH (fun w => make_any s w f1)
 have H2 := zH (fun w => make_any l w f2)
 have H3 := zH (fun w => make_any m w f3)
 have H4 := zH (fun w => cmp_any l m w f2 f3)
 have HT := zH (fun w => told_ar n s l m w)
 have HK := kn1 w 53 (mC n s l m)
 unfold IsB
 by_cases hn : 0 < n
 case neg =>
  have HE : Hid (decide ((⟨n, s, l, m⟩ : Mtr) = ⟨0, 0, 0, 0⟩) = decide (Mt.Ok ⟨n, s, l, m⟩)) := zH (Mt.ok_none hn)
  generalize decide (Mt.Ok ⟨n, s, l, m⟩) = b at *
  go_enter Tryz.func93, Tryz.ntmps93
  go_wp2_with (first | refine wpList_exe (kexec_lm HK 0 _ (by rfl) (by rfl) (by rfl)) (by rfl) ?_ | refine wpList_exe (exec_meq (x := ⟨n, s, l, m⟩) (y := ⟨0, 0, 0, 0⟩) _ _ (by rfl) (by rfl) (by rfl) HE.out) (by rfl) ?_)
  go_ret
  exact ⟨rfl, HK.out.b⟩
 case pos =>
 clear f1 f2 f3
 by_cases hs : Num.M s = s
 case neg =>
  have hok : decide (Mt.Ok ⟨n, s, l, m⟩) = false := decide_eq_false (Mt.ok_s hn hs)
  rw [hok]
  have hne : ((Num.M s : Int) != (s : Int)) = true := by rw [bne_iff_ne]; omega
  clear hok hs
  generalize Num.M s = t at *
  go_enter Tryz.func93, Tryz.ntmps93
  go_wp2_with (first | refine wpList_exe (kexec_lm HK 0 _ (by rfl) (by rfl) (by rfl)) (by rfl) ?_)
  refine (HT.out _).mono ?_; rintro e w1 ⟨rfl, b1⟩
  replace HK := hkC HK b1; clear b1
  go_wp2_with (first | (refine wpList_aka HK rfl rfl ?_; intro _ g3 HK'; simp only [lcA, lnA] at HK'; replace HK := HK'; clear HK') | (refine wpList_sa HK 1 rfl _ _ rfl rfl rfl rfl ?_; intro _ HK'; simp only [List.set] at HK'; replace HK := HK'; clear HK'))
  refine wp_loop_rounds 4 ?_
  rw [rounds_succ]
  go_wp2_with (first | refine wpList_exe (kexec_a1 HK 1 _ (by rfl) (by rfl) (by rfl)) (by rfl) ?_ | (refine wpList_akv HK rfl rfl ?_; intro _ g5 HK'; simp only [lcA, lnA] at HK'; replace HK := HK'; clear HK') | (refine wpList_sv (f2 := s) HK 2 rfl _ _ rfl rfl rfl rfl ?_; intro _ HK'; simp only [List.set] at HK'; replace HK := HK'; clear HK'))
  refine wp_region_held_drew (S := (fun W => Hid (Kn w.heap.size w W [(w.heap.size, 53, mC n s l m), (g3, 152, arC n s l m), (g5, 27, vC 2 0 s ⟨#[]⟩)] []))) (by kernel_rfl) ?_ (fun hHeld => ?_)
  ·(try dsimp only); exact zH HK.out.drew
  refine wpAnyH_take (i := 0) (oi := ⟨some 20, _, _, _, _, _⟩) (v := ?_) rfl (by kernel_rfl) (by kernel_rfl) (by kernel_rfl) (fun _ _ _ h => h) (Or.inl ⟨by rfl, ?_⟩) (by assumption) ?_
  rotate_left
  ·(intro w hSw; (try dsimp only at hSw); go_simp; try with_reducible rfl)
  try simp only [Act.put, List.setIfInBounds_toArray, List.set_cons_zero, List.set_cons_succ]
  refine wpAnyH_take (i := 1) (oi := ⟨some 21, _, _, _, _, _⟩) (v := ?_) rfl (by kernel_rfl) (by kernel_rfl) (by kernel_rfl) (fun _ _ _ h => h) (Or.inl ⟨by rfl, ?_⟩) (by assumption) ?_
  rotate_left
  ·(intro w hSw; refine Eq.trans (kexec_vf hSw 2 _ (by rfl) (by rfl) (by rfl)) ?_; with_reducible rfl)
  try simp only [Act.put, List.setIfInBounds_toArray, List.set_cons_zero, List.set_cons_succ]
  refine wpAnyH_take (i := 3) (oi := ⟨some 23, _, _, _, _, _⟩) (v := ?_) rfl (by kernel_rfl) (by kernel_rfl) (by kernel_rfl) (fun _ _ _ h => h) (Or.inl ⟨by rfl, ?_⟩) (by assumption) ?_
  rotate_left
  ·(intro w hSw; (try dsimp only at hSw); go_simp; try with_reducible rfl)
  try simp only [Act.put, List.setIfInBounds_toArray, List.set_cons_zero, List.set_cons_succ]
  refine wpAnyH_take (i := 4) (oi := ⟨some 24, _, _, _, _, _⟩) (v := ?_) rfl (by kernel_rfl) (by kernel_rfl) (by kernel_rfl) (fun _ _ _ h => h) (Or.inl ⟨by rfl, ?_⟩) (by assumption) ?_
  rotate_left
  ·(intro w hSw; refine Eq.trans (kexec_vf hSw 2 _ (by rfl) (by rfl) (by rfl)) ?_; with_reducible rfl)
  try simp only [Act.put, List.setIfInBounds_toArray, List.set_cons_zero, List.set_cons_succ]
  refine wpAnyH_ready (rs := [2]) (by kernel_rfl) (by simp) ?_
  refine AllReadyH.cons (o := ⟨some 22, _, _, _, _, _⟩) rfl (fun K hK => ?_) AllReadyH.nil
  go_simp
  go_at_call 116
  refine (H1.out _).mono ?_; rintro e w5 ⟨rfl, rfl⟩; have hs := hHeld
  refine hK.out _ _ hs (fun hHeld => ?_)
  clear hK K
  try simp only [ap1, ap2, ap3, ap4, ap5]
  refine wpAnyH_take (i := 5) (oi := ⟨some 25, _, _, _, _, _⟩) (v := ?_) rfl (by kernel_rfl) (by kernel_rfl) (by kernel_rfl) (fun _ _ _ h => h) (Or.inl ⟨by rfl, ?_⟩) (by assumption) ?_
  rotate_left
  ·(intro w hSw; (try dsimp only at hSw); go_simp; try with_reducible rfl)
  try simp only [Act.put, List.setIfInBounds_toArray, List.set_cons_zero, List.set_cons_succ]
  refine wpAnyH_done (by kernel_rfl) ?_ _
  replace HK := zH (hHeld.out.takeL 2)
  clear hHeld
  simp only [List.take] at HK
  go_wp2_with fail
  go_ret
  exact ⟨rfl, HK.out.b⟩
 case pos =>
 rw [hs] at H1
 by_cases hl : Num.M l = l
 case neg =>
  have hok : decide (Mt.Ok ⟨n, s, l, m⟩) = false := decide_eq_false (Mt.ok_l hn hl)
  rw [hok]
  have hne : ((Num.M l : Int) != (l : Int)) = true := by rw [bne_iff_ne]; omega
  clear hok hl
  generalize Num.M l = t at *
  go_enter Tryz.func93, Tryz.ntmps93
  go_wp2_with (first | refine wpList_exe (kexec_lm HK 0 _ (by rfl) (by rfl) (by rfl)) (by rfl) ?_)
  refine (HT.out _).mono ?_; rintro e w1 ⟨rfl, b1⟩
  replace HK := hkC HK b1; clear b1
  go_wp2_with (first | (refine wpList_aka HK rfl rfl ?_; intro _ g3 HK'; simp only [lcA, lnA] at HK'; replace HK := HK'; clear HK') | (refine wpList_sa HK 1 rfl _ _ rfl rfl rfl rfl ?_; intro _ HK'; simp only [List.set] at HK'; replace HK := HK'; clear HK'))
  refine wp_loop_rounds 4 ?_
  rw [rounds_succ]
  go_wp2_with (first | refine wpList_exe (kexec_a1 HK 1 _ (by rfl) (by rfl) (by rfl)) (by rfl) ?_ | (refine wpList_akv HK rfl rfl ?_; intro _ g5 HK'; simp only [lcA, lnA] at HK'; replace HK := HK'; clear HK') | (refine wpList_sv (f2 := s) HK 2 rfl _ _ rfl rfl rfl rfl ?_; intro _ HK'; simp only [List.set] at HK'; replace HK := HK'; clear HK'))
  refine wp_region_held_drew (S := (fun W => Hid (Kn w.heap.size w W [(w.heap.size, 53, mC n s l m), (g3, 152, arC n s l m), (g5, 27, vC 2 0 s ⟨#[]⟩)] []))) (by kernel_rfl) ?_ (fun hHeld => ?_)
  ·(try dsimp only); exact zH HK.out.drew
  refine wpAnyH_take (i := 0) (oi := ⟨some 20, _, _, _, _, _⟩) (v := ?_) rfl (by kernel_rfl) (by kernel_rfl) (by kernel_rfl) (fun _ _ _ h => h) (Or.inl ⟨by rfl, ?_⟩) (by assumption) ?_
  rotate_left
  ·(intro w hSw; (try dsimp only at hSw); go_simp; try with_reducible rfl)
  try simp only [Act.put, List.setIfInBounds_toArray, List.set_cons_zero, List.set_cons_succ]
  refine wpAnyH_take (i := 1) (oi := ⟨some 21, _, _, _, _, _⟩) (v := ?_) rfl (by kernel_rfl) (by kernel_rfl) (by kernel_rfl) (fun _ _ _ h => h) (Or.inl ⟨by rfl, ?_⟩) (by assumption) ?_
  rotate_left
  ·(intro w hSw; refine Eq.trans (kexec_vf hSw 2 _ (by rfl) (by rfl) (by rfl)) ?_; with_reducible rfl)
  try simp only [Act.put, List.setIfInBounds_toArray, List.set_cons_zero, List.set_cons_succ]
  refine wpAnyH_take (i := 3) (oi := ⟨some 23, _, _, _, _, _⟩) (v := ?_) rfl (by kernel_rfl) (by kernel_rfl) (by kernel_rfl) (fun _ _ _ h => h) (Or.inl ⟨by rfl, ?_⟩) (by assumption) ?_
  rotate_left
  ·(intro w hSw; (try dsimp only at hSw); go_simp; try with_reducible rfl)
  try simp only [Act.put, List.setIfInBounds_toArray, List.set_cons_zero, List.set_cons_succ]
  refine wpAnyH_take (i := 4) (oi := ⟨some 24, _, _, _, _, _⟩) (v := ?_) rfl (by kernel_rfl) (by kernel_rfl) (by kernel_rfl) (fun _ _ _ h => h) (Or.inl ⟨by rfl, ?_⟩) (by assumption) ?_
  rotate_left
  ·(intro w hSw; refine Eq.trans (kexec_vf hSw 2 _ (by rfl) (by rfl) (by rfl)) ?_; with_reducible rfl)
  try simp only [Act.put, List.setIfInBounds_toArray, List.set_cons_zero, List.set_cons_succ]
  refine wpAnyH_ready (rs := [2]) (by kernel_rfl) (by simp) ?_
  refine AllReadyH.cons (o := ⟨some 22, _, _, _, _, _⟩) rfl (fun K hK => ?_) AllReadyH.nil
  go_simp
  go_at_call 116
  refine (H1.out _).mono ?_; rintro e w5 ⟨rfl, rfl⟩; have hs := hHeld
  refine hK.out _ _ hs (fun hHeld => ?_)
  clear hK K
  try simp only [ap1, ap2, ap3, ap4, ap5]
  refine wpAnyH_take (i := 5) (oi := ⟨some 25, _, _, _, _, _⟩) (v := ?_) rfl (by kernel_rfl) (by kernel_rfl) (by kernel_rfl) (fun _ _ _ h => h) (Or.inl ⟨by rfl, ?_⟩) (by assumption) ?_
  rotate_left
  ·(intro w hSw; (try dsimp only at hSw); go_simp; try with_reducible rfl)
  try simp only [Act.put, List.setIfInBounds_toArray, List.set_cons_zero, List.set_cons_succ]
  refine wpAnyH_done (by kernel_rfl) ?_ _
  replace HK := zH (hHeld.out.takeL 2)
  clear hHeld
  simp only [List.take] at HK
  go_wp2_with fail
  rw [rounds_succ]
  go_wp2_with (first | refine wpList_exe (kexec_a2 HK 1 _ (by rfl) (by rfl) (by rfl)) (by rfl) ?_ | (refine wpList_akv HK rfl rfl ?_; intro _ g5 HK'; simp only [lcA, lnA] at HK'; replace HK := HK'; clear HK') | (refine wpList_sv (f2 := l) HK 2 rfl _ _ rfl rfl rfl rfl ?_; intro _ HK'; simp only [List.set] at HK'; replace HK := HK'; clear HK'))
  refine wp_region_held_drew (S := (fun W => Hid (Kn w.heap.size w W [(w.heap.size, 53, mC n s l m), (g3, 152, arC n s l m), (g5, 27, vC 2 0 l ⟨#[]⟩)] []))) (by kernel_rfl) ?_ (fun hHeld => ?_)
  ·(try dsimp only); exact zH HK.out.drew
  refine wpAnyH_take (i := 0) (oi := ⟨some 20, _, _, _, _, _⟩) (v := ?_) rfl (by kernel_rfl) (by kernel_rfl) (by kernel_rfl) (fun _ _ _ h => h) (Or.inl ⟨by rfl, ?_⟩) (by assumption) ?_
  rotate_left
  ·(intro w hSw; (try dsimp only at hSw); go_simp; try with_reducible rfl)
  try simp only [Act.put, List.setIfInBounds_toArray, List.set_cons_zero, List.set_cons_succ]
  refine wpAnyH_take (i := 1) (oi := ⟨some 21, _, _, _, _, _⟩) (v := ?_) rfl (by kernel_rfl) (by kernel_rfl) (by kernel_rfl) (fun _ _ _ h => h) (Or.inl ⟨by rfl, ?_⟩) (by assumption) ?_
  rotate_left
  ·(intro w hSw; refine Eq.trans (kexec_vf hSw 2 _ (by rfl) (by rfl) (by rfl)) ?_; with_reducible rfl)
  try simp only [Act.put, List.setIfInBounds_toArray, List.set_cons_zero, List.set_cons_succ]
  refine wpAnyH_take (i := 3) (oi := ⟨some 23, _, _, _, _, _⟩) (v := ?_) rfl (by kernel_rfl) (by kernel_rfl) (by kernel_rfl) (fun _ _ _ h => h) (Or.inl ⟨by rfl, ?_⟩) (by assumption) ?_
  rotate_left
  ·(intro w hSw; (try dsimp only at hSw); go_simp; try with_reducible rfl)
  try simp only [Act.put, List.setIfInBounds_toArray, List.set_cons_zero, List.set_cons_succ]
  refine wpAnyH_take (i := 4) (oi := ⟨some 24, _, _, _, _, _⟩) (v := ?_) rfl (by kernel_rfl) (by kernel_rfl) (by kernel_rfl) (fun _ _ _ h => h) (Or.inl ⟨by rfl, ?_⟩) (by assumption) ?_
  rotate_left
  ·(intro w hSw; refine Eq.trans (kexec_vf hSw 2 _ (by rfl) (by rfl) (by rfl)) ?_; with_reducible rfl)
  try simp only [Act.put, List.setIfInBounds_toArray, List.set_cons_zero, List.set_cons_succ]
  refine wpAnyH_ready (rs := [2]) (by kernel_rfl) (by simp) ?_
  refine AllReadyH.cons (o := ⟨some 22, _, _, _, _, _⟩) rfl (fun K hK => ?_) AllReadyH.nil
  go_simp
  go_at_call 116
  refine (H2.out _).mono ?_; rintro e w5 ⟨rfl, rfl⟩; have hs := hHeld
  refine hK.out _ _ hs (fun hHeld => ?_)
  clear hK K
  try simp only [ap1, ap2, ap3, ap4, ap5]
  refine wpAnyH_take (i := 5) (oi := ⟨some 25, _, _, _, _, _⟩) (v := ?_) rfl (by kernel_rfl) (by kernel_rfl) (by kernel_rfl) (fun _ _ _ h => h) (Or.inl ⟨by rfl, ?_⟩) (by assumption) ?_
  rotate_left
  ·(intro w hSw; (try dsimp only at hSw); go_simp; try with_reducible rfl)
  try simp only [Act.put, List.setIfInBounds_toArray, List.set_cons_zero, List.set_cons_succ]
  refine wpAnyH_done (by kernel_rfl) ?_ _
  replace HK := zH (hHeld.out.takeL 2)
  clear hHeld
  simp only [List.take] at HK
  go_wp2_with fail
  go_ret
  exact ⟨rfl, HK.out.b⟩
 case pos =>
 rw [hl] at H2
 by_cases hm : Num.M m = m
 case neg =>
  have hok : decide (Mt.Ok ⟨n, s, l, m⟩) = false := decide_eq_false (Mt.ok_m hn hm)
  rw [hok]
  have hne : ((Num.M m : Int) != (m : Int)) = true := by rw [bne_iff_ne]; omega
  clear hok hm
  generalize Num.M m = t at *
  go_enter Tryz.func93, Tryz.ntmps93
  go_wp2_with (first | refine wpList_exe (kexec_lm HK 0 _ (by rfl) (by rfl) (by rfl)) (by rfl) ?_)
  refine (HT.out _).mono ?_; rintro e w1 ⟨rfl, b1⟩
  replace HK := hkC HK b1; clear b1
  go_wp2_with (first | (refine wpList_aka HK rfl rfl ?_; intro _ g3 HK'; simp only [lcA, lnA] at HK'; replace HK := HK'; clear HK') | (refine wpList_sa HK 1 rfl _ _ rfl rfl rfl rfl ?_; intro _ HK'; simp only [List.set] at HK'; replace HK := HK'; clear HK'))
  refine wp_loop_rounds 4 ?_
  rw [rounds_succ]
  go_wp2_with (first | refine wpList_exe (kexec_a1 HK 1 _ (by rfl) (by rfl) (by rfl)) (by rfl) ?_ | (refine wpList_akv HK rfl rfl ?_; intro _ g5 HK'; simp only [lcA, lnA] at HK'; replace HK := HK'; clear HK') | (refine wpList_sv (f2 := s) HK 2 rfl _ _ rfl rfl rfl rfl ?_; intro _ HK'; simp only [List.set] at HK'; replace HK := HK'; clear HK'))
  refine wp_region_held_drew (S := (fun W => Hid (Kn w.heap.size w W [(w.heap.size, 53, mC n s l m), (g3, 152, arC n s l m), (g5, 27, vC 2 0 s ⟨#[]⟩)] []))) (by kernel_rfl) ?_ (fun hHeld => ?_)
  ·(try dsimp only); exact zH HK.out.drew
  refine wpAnyH_take (i := 0) (oi := ⟨some 20, _, _, _, _, _⟩) (v := ?_) rfl (by kernel_rfl) (by kernel_rfl) (by kernel_rfl) (fun _ _ _ h => h) (Or.inl ⟨by rfl, ?_⟩) (by assumption) ?_
  rotate_left
  ·(intro w hSw; (try dsimp only at hSw); go_simp; try with_reducible rfl)
  try simp only [Act.put, List.setIfInBounds_toArray, List.set_cons_zero, List.set_cons_succ]
  refine wpAnyH_take (i := 1) (oi := ⟨some 21, _, _, _, _, _⟩) (v := ?_) rfl (by kernel_rfl) (by kernel_rfl) (by kernel_rfl) (fun _ _ _ h => h) (Or.inl ⟨by rfl, ?_⟩) (by assumption) ?_
  rotate_left
  ·(intro w hSw; refine Eq.trans (kexec_vf hSw 2 _ (by rfl) (by rfl) (by rfl)) ?_; with_reducible rfl)
  try simp only [Act.put, List.setIfInBounds_toArray, List.set_cons_zero, List.set_cons_succ]
  refine wpAnyH_take (i := 3) (oi := ⟨some 23, _, _, _, _, _⟩) (v := ?_) rfl (by kernel_rfl) (by kernel_rfl) (by kernel_rfl) (fun _ _ _ h => h) (Or.inl ⟨by rfl, ?_⟩) (by assumption) ?_
  rotate_left
  ·(intro w hSw; (try dsimp only at hSw); go_simp; try with_reducible rfl)
  try simp only [Act.put, List.setIfInBounds_toArray, List.set_cons_zero, List.set_cons_succ]
  refine wpAnyH_take (i := 4) (oi := ⟨some 24, _, _, _, _, _⟩) (v := ?_) rfl (by kernel_rfl) (by kernel_rfl) (by kernel_rfl) (fun _ _ _ h => h) (Or.inl ⟨by rfl, ?_⟩) (by assumption) ?_
  rotate_left
  ·(intro w hSw; refine Eq.trans (kexec_vf hSw 2 _ (by rfl) (by rfl) (by rfl)) ?_; with_reducible rfl)
  try simp only [Act.put, List.setIfInBounds_toArray, List.set_cons_zero, List.set_cons_succ]
  refine wpAnyH_ready (rs := [2]) (by kernel_rfl) (by simp) ?_
  refine AllReadyH.cons (o := ⟨some 22, _, _, _, _, _⟩) rfl (fun K hK => ?_) AllReadyH.nil
  go_simp
  go_at_call 116
  refine (H1.out _).mono ?_; rintro e w5 ⟨rfl, rfl⟩; have hs := hHeld
  refine hK.out _ _ hs (fun hHeld => ?_)
  clear hK K
  try simp only [ap1, ap2, ap3, ap4, ap5]
  refine wpAnyH_take (i := 5) (oi := ⟨some 25, _, _, _, _, _⟩) (v := ?_) rfl (by kernel_rfl) (by kernel_rfl) (by kernel_rfl) (fun _ _ _ h => h) (Or.inl ⟨by rfl, ?_⟩) (by assumption) ?_
  rotate_left
  ·(intro w hSw; (try dsimp only at hSw); go_simp; try with_reducible rfl)
  try simp only [Act.put, List.setIfInBounds_toArray, List.set_cons_zero, List.set_cons_succ]
  refine wpAnyH_done (by kernel_rfl) ?_ _
  replace HK := zH (hHeld.out.takeL 2)
  clear hHeld
  simp only [List.take] at HK
  go_wp2_with fail
  rw [rounds_succ]
  go_wp2_with (first | refine wpList_exe (kexec_a2 HK 1 _ (by rfl) (by rfl) (by rfl)) (by rfl) ?_ | (refine wpList_akv HK rfl rfl ?_; intro _ g5 HK'; simp only [lcA, lnA] at HK'; replace HK := HK'; clear HK') | (refine wpList_sv (f2 := l) HK 2 rfl _ _ rfl rfl rfl rfl ?_; intro _ HK'; simp only [List.set] at HK'; replace HK := HK'; clear HK'))
  refine wp_region_held_drew (S := (fun W => Hid (Kn w.heap.size w W [(w.heap.size, 53, mC n s l m), (g3, 152, arC n s l m), (g5, 27, vC 2 0 l ⟨#[]⟩)] []))) (by kernel_rfl) ?_ (fun hHeld => ?_)
  ·(try dsimp only); exact zH HK.out.drew
  refine wpAnyH_take (i := 0) (oi := ⟨some 20, _, _, _, _, _⟩) (v := ?_) rfl (by kernel_rfl) (by kernel_rfl) (by kernel_rfl) (fun _ _ _ h => h) (Or.inl ⟨by rfl, ?_⟩) (by assumption) ?_
  rotate_left
  ·(intro w hSw; (try dsimp only at hSw); go_simp; try with_reducible rfl)
  try simp only [Act.put, List.setIfInBounds_toArray, List.set_cons_zero, List.set_cons_succ]
  refine wpAnyH_take (i := 1) (oi := ⟨some 21, _, _, _, _, _⟩) (v := ?_) rfl (by kernel_rfl) (by kernel_rfl) (by kernel_rfl) (fun _ _ _ h => h) (Or.inl ⟨by rfl, ?_⟩) (by assumption) ?_
  rotate_left
  ·(intro w hSw; refine Eq.trans (kexec_vf hSw 2 _ (by rfl) (by rfl) (by rfl)) ?_; with_reducible rfl)
  try simp only [Act.put, List.setIfInBounds_toArray, List.set_cons_zero, List.set_cons_succ]
  refine wpAnyH_take (i := 3) (oi := ⟨some 23, _, _, _, _, _⟩) (v := ?_) rfl (by kernel_rfl) (by kernel_rfl) (by kernel_rfl) (fun _ _ _ h => h) (Or.inl ⟨by rfl, ?_⟩) (by assumption) ?_
  rotate_left
  ·(intro w hSw; (try dsimp only at hSw); go_simp; try with_reducible rfl)
  try simp only [Act.put, List.setIfInBounds_toArray, List.set_cons_zero, List.set_cons_succ]
  refine wpAnyH_take (i := 4) (oi := ⟨some 24, _, _, _, _, _⟩) (v := ?_) rfl (by kernel_rfl) (by kernel_rfl) (by kernel_rfl) (fun _ _ _ h => h) (Or.inl ⟨by rfl, ?_⟩) (by assumption) ?_
  rotate_left
  ·(intro w hSw; refine Eq.trans (kexec_vf hSw 2 _ (by rfl) (by rfl) (by rfl)) ?_; with_reducible rfl)
  try simp only [Act.put, List.setIfInBounds_toArray, List.set_cons_zero, List.set_cons_succ]
  refine wpAnyH_ready (rs := [2]) (by kernel_rfl) (by simp) ?_
  refine AllReadyH.cons (o := ⟨some 22, _, _, _, _, _⟩) rfl (fun K hK => ?_) AllReadyH.nil
  go_simp
  go_at_call 116
  refine (H2.out _).mono ?_; rintro e w5 ⟨rfl, rfl⟩; have hs := hHeld
  refine hK.out _ _ hs (fun hHeld => ?_)
  clear hK K
  try simp only [ap1, ap2, ap3, ap4, ap5]
  refine wpAnyH_take (i := 5) (oi := ⟨some 25, _, _, _, _, _⟩) (v := ?_) rfl (by kernel_rfl) (by kernel_rfl) (by kernel_rfl) (fun _ _ _ h => h) (Or.inl ⟨by rfl, ?_⟩) (by assumption) ?_
  rotate_left
  ·(intro w hSw; (try dsimp only at hSw); go_simp; try with_reducible rfl)
  try simp only [Act.put, List.setIfInBounds_toArray, List.set_cons_zero, List.set_cons_succ]
  refine wpAnyH_done (by kernel_rfl) ?_ _
  replace HK := zH (hHeld.out.takeL 2)
  clear hHeld
  simp only [List.take] at HK
  go_wp2_with fail
  rw [rounds_succ]
  go_wp2_with (first | refine wpList_exe (kexec_a3 HK 1 _ (by rfl) (by rfl) (by rfl)) (by rfl) ?_ | (refine wpList_akv HK rfl rfl ?_; intro _ g5 HK'; simp only [lcA, lnA] at HK'; replace HK := HK'; clear HK') | (refine wpList_sv (f2 := m) HK 2 rfl _ _ rfl rfl rfl rfl ?_; intro _ HK'; simp only [List.set] at HK'; replace HK := HK'; clear HK'))
  refine wp_region_held_drew (S := (fun W => Hid (Kn w.heap.size w W [(w.heap.size, 53, mC n s l m), (g3, 152, arC n s l m), (g5, 27, vC 2 0 m ⟨#[]⟩)] []))) (by kernel_rfl) ?_ (fun hHeld => ?_)
  ·(try dsimp only); exact zH HK.out.drew
  refine wpAnyH_take (i := 0) (oi := ⟨some 20, _, _, _, _, _⟩) (v := ?_) rfl (by kernel_rfl) (by kernel_rfl) (by kernel_rfl) (fun _ _ _ h => h) (Or.inl ⟨by rfl, ?_⟩) (by assumption) ?_
  rotate_left
  ·(intro w hSw; (try dsimp only at hSw); go_simp; try with_reducible rfl)
  try simp only [Act.put, List.setIfInBounds_toArray, List.set_cons_zero, List.set_cons_succ]
  refine wpAnyH_take (i := 1) (oi := ⟨some 21, _, _, _, _, _⟩) (v := ?_) rfl (by kernel_rfl) (by kernel_rfl) (by kernel_rfl) (fun _ _ _ h => h) (Or.inl ⟨by rfl, ?_⟩) (by assumption) ?_
  rotate_left
  ·(intro w hSw; refine Eq.trans (kexec_vf hSw 2 _ (by rfl) (by rfl) (by rfl)) ?_; with_reducible rfl)
  try simp only [Act.put, List.setIfInBounds_toArray, List.set_cons_zero, List.set_cons_succ]
  refine wpAnyH_take (i := 3) (oi := ⟨some 23, _, _, _, _, _⟩) (v := ?_) rfl (by kernel_rfl) (by kernel_rfl) (by kernel_rfl) (fun _ _ _ h => h) (Or.inl ⟨by rfl, ?_⟩) (by assumption) ?_
  rotate_left
  ·(intro w hSw; (try dsimp only at hSw); go_simp; try with_reducible rfl)
  try simp only [Act.put, List.setIfInBounds_toArray, List.set_cons_zero, List.set_cons_succ]
  refine wpAnyH_take (i := 4) (oi := ⟨some 24, _, _, _, _, _⟩) (v := ?_) rfl (by kernel_rfl) (by kernel_rfl) (by kernel_rfl) (fun _ _ _ h => h) (Or.inl ⟨by rfl, ?_⟩) (by assumption) ?_
  rotate_left
  ·(intro w hSw; refine Eq.trans (kexec_vf hSw 2 _ (by rfl) (by rfl) (by rfl)) ?_; with_reducible rfl)
  try simp only [Act.put, List.setIfInBounds_toArray, List.set_cons_zero, List.set_cons_succ]
  refine wpAnyH_ready (rs := [2]) (by kernel_rfl) (by simp) ?_
  refine AllReadyH.cons (o := ⟨some 22, _, _, _, _, _⟩) rfl (fun K hK => ?_) AllReadyH.nil
  go_simp
  go_at_call 116
  refine (H3.out _).mono ?_; rintro e w5 ⟨rfl, rfl⟩; have hs := hHeld
  refine hK.out _ _ hs (fun hHeld => ?_)
  clear hK K
  try simp only [ap1, ap2, ap3, ap4, ap5]
  refine wpAnyH_take (i := 5) (oi := ⟨some 25, _, _, _, _, _⟩) (v := ?_) rfl (by kernel_rfl) (by kernel_rfl) (by kernel_rfl) (fun _ _ _ h => h) (Or.inl ⟨by rfl, ?_⟩) (by assumption) ?_
  rotate_left
  ·(intro w hSw; (try dsimp only at hSw); go_simp; try with_reducible rfl)
  try simp only [Act.put, List.setIfInBounds_toArray, List.set_cons_zero, List.set_cons_succ]
  refine wpAnyH_done (by kernel_rfl) ?_ _
  replace HK := zH (hHeld.out.takeL 2)
  clear hHeld
  simp only [List.take] at HK
  go_wp2_with fail
  go_ret
  exact ⟨rfl, HK.out.b⟩
 case pos =>
  rw [hm] at H3
  have hok : decide (Mt.Ok ⟨n, s, l, m⟩) = decide (Num.cmp l m ≤ 0) := decide_eq_decide.2 (Mt.ok_all hn hs hl hm)
  rw [hok]
  clear hok
  generalize Num.cmp l m = c at *
  clear hs hl hm
  go_enter Tryz.func93, Tryz.ntmps93
  go_wp2_with (first | refine wpList_exe (kexec_lm HK 0 _ (by rfl) (by rfl) (by rfl)) (by rfl) ?_)
  refine (HT.out _).mono ?_; rintro e w1 ⟨rfl, b1⟩
  replace HK := hkC HK b1; clear b1
  go_wp2_with (first | (refine wpList_aka HK rfl rfl ?_; intro _ g3 HK'; simp only [lcA, lnA] at HK'; replace HK := HK'; clear HK') | (refine wpList_sa HK 1 rfl _ _ rfl rfl rfl rfl ?_; intro _ HK'; simp only [List.set] at HK'; replace HK := HK'; clear HK'))
  refine wp_loop_rounds 4 ?_
  rw [rounds_succ]
  go_wp2_with (first | refine wpList_exe (kexec_a1 HK 1 _ (by rfl) (by rfl) (by rfl)) (by rfl) ?_ | (refine wpList_akv HK rfl rfl ?_; intro _ g5 HK'; simp only [lcA, lnA] at HK'; replace HK := HK'; clear HK') | (refine wpList_sv (f2 := s) HK 2 rfl _ _ rfl rfl rfl rfl ?_; intro _ HK'; simp only [List.set] at HK'; replace HK := HK'; clear HK'))
  refine wp_region_held_drew (S := (fun W => Hid (Kn w.heap.size w W [(w.heap.size, 53, mC n s l m), (g3, 152, arC n s l m), (g5, 27, vC 2 0 s ⟨#[]⟩)] []))) (by kernel_rfl) ?_ (fun hHeld => ?_)
  ·(try dsimp only); exact zH HK.out.drew
  refine wpAnyH_take (i := 0) (oi := ⟨some 20, _, _, _, _, _⟩) (v := ?_) rfl (by kernel_rfl) (by kernel_rfl) (by kernel_rfl) (fun _ _ _ h => h) (Or.inl ⟨by rfl, ?_⟩) (by assumption) ?_
  rotate_left
  ·(intro w hSw; (try dsimp only at hSw); go_simp; try with_reducible rfl)
  try simp only [Act.put, List.setIfInBounds_toArray, List.set_cons_zero, List.set_cons_succ]
  refine wpAnyH_take (i := 1) (oi := ⟨some 21, _, _, _, _, _⟩) (v := ?_) rfl (by kernel_rfl) (by kernel_rfl) (by kernel_rfl) (fun _ _ _ h => h) (Or.inl ⟨by rfl, ?_⟩) (by assumption) ?_
  rotate_left
  ·(intro w hSw; refine Eq.trans (kexec_vf hSw 2 _ (by rfl) (by rfl) (by rfl)) ?_; with_reducible rfl)
  try simp only [Act.put, List.setIfInBounds_toArray, List.set_cons_zero, List.set_cons_succ]
  refine wpAnyH_take (i := 3) (oi := ⟨some 23, _, _, _, _, _⟩) (v := ?_) rfl (by kernel_rfl) (by kernel_rfl) (by kernel_rfl) (fun _ _ _ h => h) (Or.inl ⟨by rfl, ?_⟩) (by assumption) ?_
  rotate_left
  ·(intro w hSw; (try dsimp only at hSw); go_simp; try with_reducible rfl)
  try simp only [Act.put, List.setIfInBounds_toArray, List.set_cons_zero, List.set_cons_succ]
  refine wpAnyH_take (i := 4) (oi := ⟨some 24, _, _, _, _, _⟩) (v := ?_) rfl (by kernel_rfl) (by kernel_rfl) (by kernel_rfl) (fun _ _ _ h => h) (Or.inl ⟨by rfl, ?_⟩) (by assumption) ?_
  rotate_left
  ·(intro w hSw; refine Eq.trans (kexec_vf hSw 2 _ (by rfl) (by rfl) (by rfl)) ?_; with_reducible rfl)
  try simp only [Act.put, List.setIfInBounds_toArray, List.set_cons_zero, List.set_cons_succ]
  refine wpAnyH_ready (rs := [2]) (by kernel_rfl) (by simp) ?_
  refine AllReadyH.cons (o := ⟨some 22, _, _, _, _, _⟩) rfl (fun K hK => ?_) AllReadyH.nil
  go_simp
  go_at_call 116
  refine (H1.out _).mono ?_; rintro e w5 ⟨rfl, rfl⟩; have hs := hHeld
  refine hK.out _ _ hs (fun hHeld => ?_)
  clear hK K
  try simp only [ap1, ap2, ap3, ap4, ap5]
  refine wpAnyH_take (i := 5) (oi := ⟨some 25, _, _, _, _, _⟩) (v := ?_) rfl (by kernel_rfl) (by kernel_rfl) (by kernel_rfl) (fun _ _ _ h => h) (Or.inl ⟨by rfl, ?_⟩) (by assumption) ?_
  rotate_left
  ·(intro w hSw; (try dsimp only at hSw); go_simp; try with_reducible rfl)
  try simp only [Act.put, List.setIfInBounds_toArray, List.set_cons_zero, List.set_cons_succ]
  refine wpAnyH_done (by kernel_rfl) ?_ _
  replace HK := zH (hHeld.out.takeL 2)
  clear hHeld
  simp only [List.take] at HK
  go_wp2_with fail
  rw [rounds_succ]
  go_wp2_with (first | refine wpList_exe (kexec_a2 HK 1 _ (by rfl) (by rfl) (by rfl)) (by rfl) ?_ | (refine wpList_akv HK rfl rfl ?_; intro _ g5 HK'; simp only [lcA, lnA] at HK'; replace HK := HK'; clear HK') | (refine wpList_sv (f2 := l) HK 2 rfl _ _ rfl rfl rfl rfl ?_; intro _ HK'; simp only [List.set] at HK'; replace HK := HK'; clear HK'))
  refine wp_region_held_drew (S := (fun W => Hid (Kn w.heap.size w W [(w.heap.size, 53, mC n s l m), (g3, 152, arC n s l m), (g5, 27, vC 2 0 l ⟨#[]⟩)] []))) (by kernel_rfl) ?_ (fun hHeld => ?_)
  ·(try dsimp only); exact zH HK.out.drew
  refine wpAnyH_take (i := 0) (oi := ⟨some 20, _, _, _, _, _⟩) (v := ?_) rfl (by kernel_rfl) (by kernel_rfl) (by kernel_rfl) (fun _ _ _ h => h) (Or.inl ⟨by rfl, ?_⟩) (by assumption) ?_
  rotate_left
  ·(intro w hSw; (try dsimp only at hSw); go_simp; try with_reducible rfl)
  try simp only [Act.put, List.setIfInBounds_toArray, List.set_cons_zero, List.set_cons_succ]
  refine wpAnyH_take (i := 1) (oi := ⟨some 21, _, _, _, _, _⟩) (v := ?_) rfl (by kernel_rfl) (by kernel_rfl) (by kernel_rfl) (fun _ _ _ h => h) (Or.inl ⟨by rfl, ?_⟩) (by assumption) ?_
  rotate_left
  ·(intro w hSw; refine Eq.trans (kexec_vf hSw 2 _ (by rfl) (by rfl) (by rfl)) ?_; with_reducible rfl)
  try simp only [Act.put, List.setIfInBounds_toArray, List.set_cons_zero, List.set_cons_succ]
  refine wpAnyH_take (i := 3) (oi := ⟨some 23, _, _, _, _, _⟩) (v := ?_) rfl (by kernel_rfl) (by kernel_rfl) (by kernel_rfl) (fun _ _ _ h => h) (Or.inl ⟨by rfl, ?_⟩) (by assumption) ?_
  rotate_left
  ·(intro w hSw; (try dsimp only at hSw); go_simp; try with_reducible rfl)
  try simp only [Act.put, List.setIfInBounds_toArray, List.set_cons_zero, List.set_cons_succ]
  refine wpAnyH_take (i := 4) (oi := ⟨some 24, _, _, _, _, _⟩) (v := ?_) rfl (by kernel_rfl) (by kernel_rfl) (by kernel_rfl) (fun _ _ _ h => h) (Or.inl ⟨by rfl, ?_⟩) (by assumption) ?_
  rotate_left
  ·(intro w hSw; refine Eq.trans (kexec_vf hSw 2 _ (by rfl) (by rfl) (by rfl)) ?_; with_reducible rfl)
  try simp only [Act.put, List.setIfInBounds_toArray, List.set_cons_zero, List.set_cons_succ]
  refine wpAnyH_ready (rs := [2]) (by kernel_rfl) (by simp) ?_
  refine AllReadyH.cons (o := ⟨some 22, _, _, _, _, _⟩) rfl (fun K hK => ?_) AllReadyH.nil
  go_simp
  go_at_call 116
  refine (H2.out _).mono ?_; rintro e w5 ⟨rfl, rfl⟩; have hs := hHeld
  refine hK.out _ _ hs (fun hHeld => ?_)
  clear hK K
  try simp only [ap1, ap2, ap3, ap4, ap5]
  refine wpAnyH_take (i := 5) (oi := ⟨some 25, _, _, _, _, _⟩) (v := ?_) rfl (by kernel_rfl) (by kernel_rfl) (by kernel_rfl) (fun _ _ _ h => h) (Or.inl ⟨by rfl, ?_⟩) (by assumption) ?_
  rotate_left
  ·(intro w hSw; (try dsimp only at hSw); go_simp; try with_reducible rfl)
  try simp only [Act.put, List.setIfInBounds_toArray, List.set_cons_zero, List.set_cons_succ]
  refine wpAnyH_done (by kernel_rfl) ?_ _
  replace HK := zH (hHeld.out.takeL 2)
  clear hHeld
  simp only [List.take] at HK
  go_wp2_with fail
  rw [rounds_succ]
  go_wp2_with (first | refine wpList_exe (kexec_a3 HK 1 _ (by rfl) (by rfl) (by rfl)) (by rfl) ?_ | (refine wpList_akv HK rfl rfl ?_; intro _ g5 HK'; simp only [lcA, lnA] at HK'; replace HK := HK'; clear HK') | (refine wpList_sv (f2 := m) HK 2 rfl _ _ rfl rfl rfl rfl ?_; intro _ HK'; simp only [List.set] at HK'; replace HK := HK'; clear HK'))
  refine wp_region_held_drew (S := (fun W => Hid (Kn w.heap.size w W [(w.heap.size, 53, mC n s l m), (g3, 152, arC n s l m), (g5, 27, vC 2 0 m ⟨#[]⟩)] []))) (by kernel_rfl) ?_ (fun hHeld => ?_)
  ·(try dsimp only); exact zH HK.out.drew
  refine wpAnyH_take (i := 0) (oi := ⟨some 20, _, _, _, _, _⟩) (v := ?_) rfl (by kernel_rfl) (by kernel_rfl) (by kernel_rfl) (fun _ _ _ h => h) (Or.inl ⟨by rfl, ?_⟩) (by assumption) ?_
  rotate_left
  ·(intro w hSw; (try dsimp only at hSw); go_simp; try with_reducible rfl)
  try simp only [Act.put, List.setIfInBounds_toArray, List.set_cons_zero, List.set_cons_succ]
  refine wpAnyH_take (i := 1) (oi := ⟨some 21, _, _, _, _, _⟩) (v := ?_) rfl (by kernel_rfl) (by kernel_rfl) (by kernel_rfl) (fun _ _ _ h => h) (Or.inl ⟨by rfl, ?_⟩) (by assumption) ?_
  rotate_left
  ·(intro w hSw; refine Eq.trans (kexec_vf hSw 2 _ (by rfl) (by rfl) (by rfl)) ?_; with_reducible rfl)
  try simp only [Act.put, List.setIfInBounds_toArray, List.set_cons_zero, List.set_cons_succ]
  refine wpAnyH_take (i := 3) (oi := ⟨some 23, _, _, _, _, _⟩) (v := ?_) rfl (by kernel_rfl) (by kernel_rfl) (by kernel_rfl) (fun _ _ _ h => h) (Or.inl ⟨by rfl, ?_⟩) (by assumption) ?_
  rotate_left
  ·(intro w hSw; (try dsimp only at hSw); go_simp; try with_reducible rfl)
  try simp only [Act.put, List.setIfInBounds_toArray, List.set_cons_zero, List.set_cons_succ]
  refine wpAnyH_take (i := 4) (oi := ⟨some 24, _, _, _, _, _⟩) (v := ?_) rfl (by kernel_rfl) (by kernel_rfl) (by kernel_rfl) (fun _ _ _ h => h) (Or.inl ⟨by rfl, ?_⟩) (by assumption) ?_
  rotate_left
  ·(intro w hSw; refine Eq.trans (kexec_vf hSw 2 _ (by rfl) (by rfl) (by rfl)) ?_; with_reducible rfl)
  try simp only [Act.put, List.setIfInBounds_toArray, List.set_cons_zero, List.set_cons_succ]
  refine wpAnyH_ready (rs := [2]) (by kernel_rfl) (by simp) ?_
  refine AllReadyH.cons (o := ⟨some 22, _, _, _, _, _⟩) rfl (fun K hK => ?_) AllReadyH.nil
  go_simp
  go_at_call 116
  refine (H3.out _).mono ?_; rintro e w5 ⟨rfl, rfl⟩; have hs := hHeld
  refine hK.out _ _ hs (fun hHeld => ?_)
  clear hK K
  try simp only [ap1, ap2, ap3, ap4, ap5]
  refine wpAnyH_take (i := 5) (oi := ⟨some 25, _, _, _, _, _⟩) (v := ?_) rfl (by kernel_rfl) (by kernel_rfl) (by kernel_rfl) (fun _ _ _ h => h) (Or.inl ⟨by rfl, ?_⟩) (by assumption) ?_
  rotate_left
  ·(intro w hSw; (try dsimp only at hSw); go_simp; try with_reducible rfl)
  try simp only [Act.put, List.setIfInBounds_toArray, List.set_cons_zero, List.set_cons_succ]
  refine wpAnyH_done (by kernel_rfl) ?_ _
  replace HK := zH (hHeld.out.takeL 2)
  clear hHeld
  simp only [List.take] at HK
  go_wp2_with fail
  rw [rounds_succ]
  go_wp2_with (first | refine wpList_exe (kexec_ml HK 0 _ (by rfl) (by rfl) (by rfl)) (by rfl) ?_ | refine wpList_exe (kexec_mm HK 0 _ (by rfl) (by rfl) (by rfl)) (by rfl) ?_)
  refine (H4.out _).mono ?_; rintro e w1 ⟨rfl, rfl⟩
  go_wp2_with fail
  go_ret
  exact ⟨rfl, HK.out.b⟩
end Go.Proofs.YtpkodjllljnleaaGreat
namespace Go.Proofs.YtpkodjllljnleaaGreat
open Go.RowKit
set_option maxRecDepth 100000 in
set_option maxHeartbeats 3200000 in
theorem madd_any (x : Mtr) (hf : Mt.Fit x) (b : Nat) (hb : b < 18446744073709551616) (w : World) :
  Calls Tryz.prog 60 #[.agg #[.int .i64 x.n, .int .u64 (x.s : Int), .int .u64 (x.l : Int), .int .u64 (x.m : Int)], .int .u64 (b : Int)] w (IsMe (Mt.ad x b) (Mt.adE x) w) := by
 obtain ⟨n, s, l, m⟩ := x
 have HM := zH (fun W => mright_any ⟨n, s, l, m⟩ hf W)
 have hfn : n ≤ 9223372036854775807 := hf.1
 have HMk := zH (fun W => make_any b W hb)
 have HK := kn2 w 53 (mC n s l m) 53 (mC 0 0 0 0)
 unfold IsB IsMe at *
 by_cases hok : Mt.Ok ⟨n, s, l, m⟩
 case neg =>
  rw [Mt.ad_bad hok, Mt.adE_bad hok]
  rw [decide_eq_false hok] at HM
  clear hok hf hfn HMk
  go_enter Tryz.func60, Tryz.ntmps60
  go_wp2_with (first | refine wpList_exe (kexec_lm HK 0 _ (by rfl) (by rfl) (by rfl)) (by rfl) ?_)
  refine (HM.out _).mono ?_; rintro e w1 ⟨rfl, b1⟩
  replace HK := hkC HK b1; clear b1
  go_wp2_with (first | refine wpList_exe (kexec_lm HK 0 _ (by rfl) (by rfl) (by rfl)) (by rfl) ?_ | (refine wpList_sm HK 1 rfl _ _ rfl rfl rfl rfl ?_; intro _ HK'; simp only [List.set] at HK'; replace HK := HK'; clear HK') | refine wpList_exe (kexec_mn HK 0 _ (by rfl) (by rfl) (by rfl)) (by rfl) ?_)
  exact ret_me Tryz.results60 rfl rfl rfl (HK.out.blk 1 rfl) ⟨rfl, HK.out.b⟩
 case pos =>
 rw [decide_eq_true hok] at HM
 by_cases hmx : n = 9223372036854775807
 ·rw [Mt.ad_full hok hmx, Mt.adE_full hok hmx]
  clear hok hf hfn HMk
  subst hmx
  go_enter Tryz.func60, Tryz.ntmps60
  go_wp2_with (first | refine wpList_exe (kexec_lm HK 0 _ (by rfl) (by rfl) (by rfl)) (by rfl) ?_)
  refine (HM.out _).mono ?_; rintro e w1 ⟨rfl, b1⟩
  replace HK := hkC HK b1; clear b1
  go_wp2_with (first | refine wpList_exe (kexec_lm HK 0 _ (by rfl) (by rfl) (by rfl)) (by rfl) ?_ | (refine wpList_sm HK 1 rfl _ _ rfl rfl rfl rfl ?_; intro _ HK'; simp only [List.set] at HK'; replace HK := HK'; clear HK') | refine wpList_exe (kexec_mn HK 0 _ (by rfl) (by rfl) (by rfl)) (by rfl) ?_)
  exact ret_me Tryz.results60 rfl rfl rfl (HK.out.blk 1 rfl) ⟨rfl, HK.out.b⟩
 have hne : (n == 9223372036854775807) = false := by rw [beq_eq_false_iff_ne]; exact hmx
 rw [Mt.adE_one hok hmx]
 by_cases h0 : n = 0
 ·rw [Mt.ad_one hok h0]
  clear hok hf hfn hmx
  subst h0
  generalize Num.M b = t at *
  go_enter Tryz.func60, Tryz.ntmps60
  go_wp2_with (first | refine wpList_exe (kexec_lm HK 0 _ (by rfl) (by rfl) (by rfl)) (by rfl) ?_)
  refine (HM.out _).mono ?_; rintro e w1 ⟨rfl, b1⟩
  replace HK := hkC HK b1; clear b1
  go_wp2_with (first | refine wpList_exe (kexec_lm HK 0 _ (by rfl) (by rfl) (by rfl)) (by rfl) ?_ | (refine wpList_sm HK 1 rfl _ _ rfl rfl rfl rfl ?_; intro _ HK'; simp only [List.set] at HK'; replace HK := HK'; clear HK') | refine wpList_exe (kexec_mn HK 0 _ (by rfl) (by rfl) (by rfl)) (by rfl) ?_)
  refine (HMk.out _).mono ?_; rintro e w1 ⟨rfl, rfl⟩
  go_wp2_with (first | refine wpList_exe (kexec_mn HK 0 _ (by rfl) (by rfl) (by rfl)) (by rfl) ?_ | (refine wpList_sm HK 1 rfl _ _ rfl rfl rfl rfl ?_; intro _ HK'; simp only [List.set] at HK'; replace HK := HK'; clear HK'))
  exact ret_me Tryz.results60 rfl rfl rfl (HK.out.blk 1 rfl) ⟨rfl, HK.out.b⟩
 ·have hz : (n == 0) = false := by rw [beq_eq_false_iff_ne]; exact h0
  rw [Mt.ad_more hok hmx h0]
  have HW : Hid (IntKind.i64.wrap (n + 1) = n + 1) := zH (by
   have hp : 0 ≤ n := Mt.ok_pos hok
   rw [IntKind.wrap_i64]; omega)
  have hs := hf.2.1
  have hl := hf.2.2.1
  have hm := hf.2.2.2
  have hb2 := Num.M_lt hb
  have HA := zH (fun W => add_below s (Num.M b) W hs hb2)
  have HL := zH (fun W => least_any l (Num.M b) W hl hb2)
  have HG := zH (fun W => most_any m (Num.M b) W hm hb2)
  clear hok hf hfn hmx h0 hs hl hm hb2
  generalize Num.M b = t at *
  generalize Num.S s t = s2 at *
  generalize least l t = l2 at *
  generalize most m t = m2 at *
  go_enter Tryz.func60, Tryz.ntmps60
  go_wp2_with (first | refine wpList_exe (kexec_lm HK 0 _ (by rfl) (by rfl) (by rfl)) (by rfl) ?_)
  refine (HM.out _).mono ?_; rintro e w1 ⟨rfl, b1⟩
  replace HK := hkC HK b1; clear b1
  go_wp2_with (first | refine wpList_exe (kexec_lm HK 0 _ (by rfl) (by rfl) (by rfl)) (by rfl) ?_ | (refine wpList_sm HK 1 rfl _ _ rfl rfl rfl rfl ?_; intro _ HK'; simp only [List.set] at HK'; replace HK := HK'; clear HK') | refine wpList_exe (kexec_mn HK 0 _ (by rfl) (by rfl) (by rfl)) (by rfl) ?_)
  refine (HMk.out _).mono ?_; rintro e w1 ⟨rfl, rfl⟩
  go_wp2_with (first | refine wpList_exe (kexec_mn HK 0 _ (by rfl) (by rfl) (by rfl)) (by rfl) ?_)
  have HK0 := zH HK.out.drew
  clear HK
  refine wp_region_held_drew (S := (fun W => Hid (Kn w.heap.size w W [(w.heap.size, 53, mC n s l m)] []))) (by kernel_rfl) ?_ (fun hHeld => ?_)
  ·(try dsimp only); exact zH (HK0.out.takeL 1)
  refine wpAnyH_take (i := 0) (oi := ⟨some 26, _, _, _, _, _⟩) (v := ?_) rfl (by kernel_rfl) (by kernel_rfl) (by kernel_rfl) (fun _ _ _ h => h) (Or.inl ⟨by rfl, ?_⟩) (by assumption) ?_
  rotate_left
  ·(intro w hSw; (try dsimp only at hSw); go_simp; try with_reducible rfl)
  try simp only [Act.put, List.setIfInBounds_toArray, List.set_cons_zero, List.set_cons_succ]
  refine wpAnyH_take (i := 1) (oi := ⟨some 27, _, _, _, _, _⟩) (v := ?_) rfl (by kernel_rfl) (by kernel_rfl) (by kernel_rfl) (fun _ _ _ h => h) (Or.inl ⟨by rfl, ?_⟩) (by assumption) ?_
  rotate_left
  ·(intro w hSw; refine Eq.trans (kexec_mn hSw 0 _ (by rfl) (by rfl) (by rfl)) ?_; with_reducible rfl)
  try simp only [Act.put, List.setIfInBounds_toArray, List.set_cons_zero, List.set_cons_succ]
  refine wpAnyH_take (i := 2) (oi := ⟨some 28, _, _, _, _, _⟩) (v := ?_) rfl (by kernel_rfl) (by kernel_rfl) (by kernel_rfl) (fun _ _ _ h => h) (Or.inl ⟨by rfl, ?_⟩) (by assumption) ?_
  rotate_left
  ·(intro w hSw; refine Eq.trans (exec_inc _ (by rfl) (by rfl) HW.out) ?_; with_reducible rfl)
  try simp only [Act.put, List.setIfInBounds_toArray, List.set_cons_zero, List.set_cons_succ]
  refine wpAnyH_take (i := 3) (oi := ⟨some 29, _, _, _, _, _⟩) (v := ?_) rfl (by kernel_rfl) (by kernel_rfl) (by kernel_rfl) (fun _ _ _ h => h) (Or.inl ⟨by rfl, ?_⟩) (by assumption) ?_
  rotate_left
  ·(intro w hSw; (try dsimp only at hSw); go_simp; try with_reducible rfl)
  try simp only [Act.put, List.setIfInBounds_toArray, List.set_cons_zero, List.set_cons_succ]
  refine wpAnyH_take (i := 4) (oi := ⟨some 30, _, _, _, _, _⟩) (v := ?_) rfl (by kernel_rfl) (by kernel_rfl) (by kernel_rfl) (fun _ _ _ h => h) (Or.inl ⟨by rfl, ?_⟩) (by assumption) ?_
  rotate_left
  ·(intro w hSw; refine Eq.trans (kexec_ms hSw 0 _ (by rfl) (by rfl) (by rfl)) ?_; with_reducible rfl)
  try simp only [Act.put, List.setIfInBounds_toArray, List.set_cons_zero, List.set_cons_succ]
  refine wpAnyH_take (i := 5) (oi := ⟨some 31, _, _, _, _, _⟩) (v := ?_) rfl (by kernel_rfl) (by kernel_rfl) (by kernel_rfl) (fun _ _ _ h => h) (Or.inl ⟨by rfl, ?_⟩) (by assumption) ?_
  rotate_left
  ·(intro w hSw; (try dsimp only at hSw); go_simp; try with_reducible rfl)
  try simp only [Act.put, List.setIfInBounds_toArray, List.set_cons_zero, List.set_cons_succ]
  refine wpAnyH_take (i := 7) (oi := ⟨some 33, _, _, _, _, _⟩) (v := ?_) rfl (by kernel_rfl) (by kernel_rfl) (by kernel_rfl) (fun _ _ _ h => h) (Or.inl ⟨by rfl, ?_⟩) (by assumption) ?_
  rotate_left
  ·(intro w hSw; (try dsimp only at hSw); go_simp; try with_reducible rfl)
  try simp only [Act.put, List.setIfInBounds_toArray, List.set_cons_zero, List.set_cons_succ]
  refine wpAnyH_take (i := 8) (oi := ⟨some 34, _, _, _, _, _⟩) (v := ?_) rfl (by kernel_rfl) (by kernel_rfl) (by kernel_rfl) (fun _ _ _ h => h) (Or.inl ⟨by rfl, ?_⟩) (by assumption) ?_
  rotate_left
  ·(intro w hSw; refine Eq.trans (kexec_ml hSw 0 _ (by rfl) (by rfl) (by rfl)) ?_; with_reducible rfl)
  try simp only [Act.put, List.setIfInBounds_toArray, List.set_cons_zero, List.set_cons_succ]
  refine wpAnyH_take (i := 9) (oi := ⟨some 35, _, _, _, _, _⟩) (v := ?_) rfl (by kernel_rfl) (by kernel_rfl) (by kernel_rfl) (fun _ _ _ h => h) (Or.inl ⟨by rfl, ?_⟩) (by assumption) ?_
  rotate_left
  ·(intro w hSw; (try dsimp only at hSw); go_simp; try with_reducible rfl)
  try simp only [Act.put, List.setIfInBounds_toArray, List.set_cons_zero, List.set_cons_succ]
  refine wpAnyH_take (i := 11) (oi := ⟨some 37, _, _, _, _, _⟩) (v := ?_) rfl (by kernel_rfl) (by kernel_rfl) (by kernel_rfl) (fun _ _ _ h => h) (Or.inl ⟨by rfl, ?_⟩) (by assumption) ?_
  rotate_left
  ·(intro w hSw; (try dsimp only at hSw); go_simp; try with_reducible rfl)
  try simp only [Act.put, List.setIfInBounds_toArray, List.set_cons_zero, List.set_cons_succ]
  refine wpAnyH_take (i := 12) (oi := ⟨some 38, _, _, _, _, _⟩) (v := ?_) rfl (by kernel_rfl) (by kernel_rfl) (by kernel_rfl) (fun _ _ _ h => h) (Or.inl ⟨by rfl, ?_⟩) (by assumption) ?_
  rotate_left
  ·(intro w hSw; refine Eq.trans (kexec_mm hSw 0 _ (by rfl) (by rfl) (by rfl)) ?_; with_reducible rfl)
  try simp only [Act.put, List.setIfInBounds_toArray, List.set_cons_zero, List.set_cons_succ]
  refine wpAnyH_take (i := 13) (oi := ⟨some 39, _, _, _, _, _⟩) (v := ?_) rfl (by kernel_rfl) (by kernel_rfl) (by kernel_rfl) (fun _ _ _ h => h) (Or.inl ⟨by rfl, ?_⟩) (by assumption) ?_
  rotate_left
  ·(intro w hSw; (try dsimp only at hSw); go_simp; try with_reducible rfl)
  try simp only [Act.put, List.setIfInBounds_toArray, List.set_cons_zero, List.set_cons_succ]
  refine wpAnyH_ready (rs := [6]) (by kernel_rfl) (by simp) ?_
  refine AllReadyH.cons (o := ⟨some 32, _, _, _, _, _⟩) rfl (fun K hK => ?_) AllReadyH.nil
  go_simp
  go_at_call 117
  refine (HA.out _).mono ?_; rintro e w5 ⟨rfl, b5⟩; have hs := zH (hHeld.out.call b5); replace HK0 := zH (HK0.out.call b5); clear b5
  refine hK.out _ _ hs (fun hHeld => ?_)
  clear hK K
  try simp only [ap1, ap2, ap3, ap4, ap5]
  refine wpAnyH_ready (rs := [10]) (by kernel_rfl) (by simp) ?_
  refine AllReadyH.cons (o := ⟨some 36, _, _, _, _, _⟩) rfl (fun K hK => ?_) AllReadyH.nil
  go_simp
  go_at_call 118
  refine (HL.out _).mono ?_; rintro e w5 ⟨rfl, rfl⟩; have hs := hHeld
  refine hK.out _ _ hs (fun hHeld => ?_)
  clear hK K
  try simp only [ap1, ap2, ap3, ap4, ap5]
  refine wpAnyH_ready (rs := [14]) (by kernel_rfl) (by simp) ?_
  refine AllReadyH.cons (o := ⟨some 40, _, _, _, _, _⟩) rfl (fun K hK => ?_) AllReadyH.nil
  go_simp
  go_at_call 119
  refine (HG.out _).mono ?_; rintro e w5 ⟨rfl, rfl⟩; have hs := hHeld
  refine hK.out _ _ hs (fun hHeld => ?_)
  clear hK K
  try simp only [ap1, ap2, ap3, ap4, ap5]
  refine wpAnyH_take (i := 15) (oi := ⟨some 41, _, _, _, _, _⟩) (v := ?_) rfl (by kernel_rfl) (by kernel_rfl) (by kernel_rfl) (fun _ _ _ h => h) (Or.inl ⟨by rfl, ?_⟩) (by assumption) ?_
  rotate_left
  ·(intro w hSw; (try dsimp only at hSw); go_simp; try with_reducible rfl)
  try simp only [Act.put, List.setIfInBounds_toArray, List.set_cons_zero, List.set_cons_succ]
  refine wpAnyH_ready (rs := [16]) (by kernel_rfl) (by simp) ?_
  refine AllReadyH.cons (o := ⟨none, _, _, _, _, _⟩) rfl (fun K hK => ?_) AllReadyH.nil
  refine step_sm HK0 1 (by rfl) _ _ (by rfl) (by rfl) (by rfl) (by rfl) ?_; intro w6 HK'; simp only [List.set] at HK'; replace HK0 := HK'; clear HK'; have hs := zH (HK0.out.takeL 1)
  refine hK.out _ _ hs (fun hHeld => ?_)
  clear hK K
  try simp only [ap1, ap2, ap3, ap4, ap5]
  refine wpAnyH_take (i := 17) (oi := ⟨some 5, _, _, _, _, _⟩) (v := ?_) rfl (by kernel_rfl) (by kernel_rfl) (by kernel_rfl) (fun _ _ _ h => h) (Or.inl ⟨by rfl, ?_⟩) (by assumption) ?_
  rotate_left
  ·(intro w hSw; (try dsimp only at hSw); go_simp; try with_reducible rfl)
  try simp only [Act.put, List.setIfInBounds_toArray, List.set_cons_zero, List.set_cons_succ]
  refine wpAnyH_done (by kernel_rfl) ?_ _
  all_goals
   have HK := HK0
   clear HK0 hHeld
   go_wp2_with fail
   exact ret_me Tryz.results60 rfl rfl rfl (HK.out.blk 1 rfl) ⟨rfl, HK.out.b⟩
end Go.Proofs.YtpkodjllljnleaaGreat
namespace Go.Proofs.YtpkodjllljnleaaGreat
open Go.RowKit
set_option maxRecDepth 100000 in
set_option maxHeartbeats 3200000 in
theorem mread_any (x : Mtr) (hf : Mt.Fit x) (q : Int) (w : World) :
  Calls Tryz.prog 61 #[.agg #[.int .i64 x.n, .int .u64 (x.s : Int), .int .u64 (x.l : Int), .int .u64 (x.m : Int)], .int .i64 q] w (IsVe (Mt.rd x q) w) := by
 obtain ⟨n, s, l, m⟩ := x
 have HM := zH (fun W => mright_any ⟨n, s, l, m⟩ hf W)
 have HT := zH (fun W => told_ar n s l m W)
 unfold arC at HT
 have HK := kn2 w 53 (mC n s l m) 27 (vC 0 0 0 ⟨#[]⟩)
 clear hf
 unfold IsB IsVe at *
 by_cases hok : Mt.Ok ⟨n, s, l, m⟩
 case neg =>
  rw [Mt.rd_bad (.inl hok)]
  rw [decide_eq_false hok] at HM
  clear hok
  go_enter Tryz.func61, Tryz.ntmps61
  go_wp2_with (first | refine wpList_exe (kexec_lm HK 0 _ (by rfl) (by rfl) (by rfl)) (by rfl) ?_)
  refine (HM.out _).mono ?_; rintro e w1 ⟨rfl, b1⟩
  replace HK := hkC HK b1; clear b1
  go_wp2_with (first | refine wpList_exe (kexec_mn HK 0 _ (by rfl) (by rfl) (by rfl)) (by rfl) ?_ | refine wpList_exe (kexec_lm HK 0 _ (by rfl) (by rfl) (by rfl)) (by rfl) ?_ | (refine wpList_sv (f2 := 0) HK 1 rfl _ _ rfl rfl rfl rfl ?_; intro _ HK'; simp only [List.set] at HK'; replace HK := HK'; clear HK'))
  exact ret_va Tryz.results61 rfl rfl rfl (HK.out.blk 1 rfl) ⟨rfl, HK.out.b⟩
 case pos =>
 rw [decide_eq_true hok] at HM
 by_cases hlo : q < 0
 ·rw [Mt.rd_bad (.inr (.inl hlo))]
  clear hok
  go_enter Tryz.func61, Tryz.ntmps61
  go_wp2_with (first | refine wpList_exe (kexec_lm HK 0 _ (by rfl) (by rfl) (by rfl)) (by rfl) ?_)
  refine (HM.out _).mono ?_; rintro e w1 ⟨rfl, b1⟩
  replace HK := hkC HK b1; clear b1
  go_wp2_with (first | refine wpList_exe (kexec_mn HK 0 _ (by rfl) (by rfl) (by rfl)) (by rfl) ?_ | refine wpList_exe (kexec_lm HK 0 _ (by rfl) (by rfl) (by rfl)) (by rfl) ?_ | (refine wpList_sv (f2 := 0) HK 1 rfl _ _ rfl rfl rfl rfl ?_; intro _ HK'; simp only [List.set] at HK'; replace HK := HK'; clear HK'))
  exact ret_va Tryz.results61 rfl rfl rfl (HK.out.blk 1 rfl) ⟨rfl, HK.out.b⟩
 by_cases hhi : 3 < q
 ·rw [Mt.rd_bad (.inr (.inr hhi))]
  have hhi2 : 4 ≤ q := by omega
  clear hok
  go_enter Tryz.func61, Tryz.ntmps61
  go_wp2_with (first | refine wpList_exe (kexec_lm HK 0 _ (by rfl) (by rfl) (by rfl)) (by rfl) ?_)
  refine (HM.out _).mono ?_; rintro e w1 ⟨rfl, b1⟩
  replace HK := hkC HK b1; clear b1
  go_wp2_with (first | refine wpList_exe (kexec_mn HK 0 _ (by rfl) (by rfl) (by rfl)) (by rfl) ?_ | refine wpList_exe (kexec_lm HK 0 _ (by rfl) (by rfl) (by rfl)) (by rfl) ?_ | (refine wpList_sv (f2 := 0) HK 1 rfl _ _ rfl rfl rfl rfl ?_; intro _ HK'; simp only [List.set] at HK'; replace HK := HK'; clear HK'))
  exact ret_va Tryz.results61 rfl rfl rfl (HK.out.blk 1 rfl) ⟨rfl, HK.out.b⟩
 by_cases hq0 : q = 0
 ·subst hq0
  rw [Mt.rd_0 hok]
  have hix := ix_ar0 n s l m
  clear hok hlo hhi
  dsimp only
  by_cases h0 : (n == 0) = true
  ·go_enter Tryz.func61, Tryz.ntmps61
   go_wp2_with (first | refine wpList_exe (kexec_lm HK 0 _ (by rfl) (by rfl) (by rfl)) (by rfl) ?_)
   refine (HM.out _).mono ?_; rintro e w1 ⟨rfl, b1⟩
   replace HK := hkC HK b1; clear b1
   go_wp2_with (first | refine wpList_exe (kexec_mn HK 0 _ (by rfl) (by rfl) (by rfl)) (by rfl) ?_ | refine wpList_exe (kexec_lm HK 0 _ (by rfl) (by rfl) (by rfl)) (by rfl) ?_ | (refine wpList_sv (f2 := 0) HK 1 rfl _ _ rfl rfl rfl rfl ?_; intro _ HK'; simp only [List.set] at HK'; replace HK := HK'; clear HK'))
   refine (HT.out _).mono ?_; rintro e w1 ⟨rfl, b1⟩
   replace HK := hkC HK b1; clear b1
   go_wp2_with (first | (refine wpList_sv (f2 := 0) HK 1 rfl _ _ rfl rfl rfl rfl ?_; intro _ HK'; simp only [List.set] at HK'; replace HK := HK'; clear HK'))
   exact ret_va Tryz.results61 rfl rfl rfl (HK.out.blk 1 rfl) ⟨rfl, HK.out.b⟩
  ·have h0 : (n == 0) = false := Bool.eq_false_iff.2 h0
   go_enter Tryz.func61, Tryz.ntmps61
   go_wp2_with (first | refine wpList_exe (kexec_lm HK 0 _ (by rfl) (by rfl) (by rfl)) (by rfl) ?_)
   refine (HM.out _).mono ?_; rintro e w1 ⟨rfl, b1⟩
   replace HK := hkC HK b1; clear b1
   go_wp2_with (first | refine wpList_exe (kexec_mn HK 0 _ (by rfl) (by rfl) (by rfl)) (by rfl) ?_ | refine wpList_exe (kexec_lm HK 0 _ (by rfl) (by rfl) (by rfl)) (by rfl) ?_ | (refine wpList_sv (f2 := 0) HK 1 rfl _ _ rfl rfl rfl rfl ?_; intro _ HK'; simp only [List.set] at HK'; replace HK := HK'; clear HK'))
   refine (HT.out _).mono ?_; rintro e w1 ⟨rfl, b1⟩
   replace HK := hkC HK b1; clear b1
   go_wp2_with (first | (refine wpList_sv (f2 := 0) HK 1 rfl _ _ rfl rfl rfl rfl ?_; intro _ HK'; simp only [List.set] at HK'; replace HK := HK'; clear HK'))
   exact ret_va Tryz.results61 rfl rfl rfl (HK.out.blk 1 rfl) ⟨rfl, HK.out.b⟩
 have hq1 : (q == 0) = false := by rw [beq_eq_false_iff_ne]; exact hq0
 have hq2 : ¬ 4 ≤ q := by omega
 by_cases hn : n = 0
 ·rw [Mt.rd_no hok (by omega) (by omega) hq0 hn]
  subst hn
  clear hok hq0
  go_enter Tryz.func61, Tryz.ntmps61
  go_wp2_with (first | refine wpList_exe (kexec_lm HK 0 _ (by rfl) (by rfl) (by rfl)) (by rfl) ?_)
  refine (HM.out _).mono ?_; rintro e w1 ⟨rfl, b1⟩
  replace HK := hkC HK b1; clear b1
  go_wp2_with (first | refine wpList_exe (kexec_mn HK 0 _ (by rfl) (by rfl) (by rfl)) (by rfl) ?_ | refine wpList_exe (kexec_lm HK 0 _ (by rfl) (by rfl) (by rfl)) (by rfl) ?_ | (refine wpList_sv (f2 := 0) HK 1 rfl _ _ rfl rfl rfl rfl ?_; intro _ HK'; simp only [List.set] at HK'; replace HK := HK'; clear HK'))
  exact ret_va Tryz.results61 rfl rfl rfl (HK.out.blk 1 rfl) ⟨rfl, HK.out.b⟩
 have h0 : (n == 0) = false := by rw [beq_eq_false_iff_ne]; exact hn
 have hcase : q = 1 ∨ q = 2 ∨ q = 3 := by omega
 clear hlo hhi hq0 hq1 hq2
 rcases hcase with rfl | rfl | rfl
 ·rw [Mt.rd_1 hok hn]
  have hix := ix_ar1 n s l m
  clear hok hn
  dsimp only
  go_enter Tryz.func61, Tryz.ntmps61
  go_wp2_with (first | refine wpList_exe (kexec_lm HK 0 _ (by rfl) (by rfl) (by rfl)) (by rfl) ?_)
  refine (HM.out _).mono ?_; rintro e w1 ⟨rfl, b1⟩
  replace HK := hkC HK b1; clear b1
  go_wp2_with (first | refine wpList_exe (kexec_mn HK 0 _ (by rfl) (by rfl) (by rfl)) (by rfl) ?_ | refine wpList_exe (kexec_lm HK 0 _ (by rfl) (by rfl) (by rfl)) (by rfl) ?_ | (refine wpList_sv (f2 := s) HK 1 rfl _ _ rfl rfl rfl rfl ?_; intro _ HK'; simp only [List.set] at HK'; replace HK := HK'; clear HK'))
  refine (HT.out _).mono ?_; rintro e w1 ⟨rfl, b1⟩
  replace HK := hkC HK b1; clear b1
  go_wp2_with (first | (refine wpList_sv (f2 := s) HK 1 rfl _ _ rfl rfl rfl rfl ?_; intro _ HK'; simp only [List.set] at HK'; replace HK := HK'; clear HK'))
  exact ret_va Tryz.results61 rfl rfl rfl (HK.out.blk 1 rfl) ⟨rfl, HK.out.b⟩
 ·rw [Mt.rd_2 hok hn]
  have hix := ix_ar2 n s l m
  clear hok hn
  dsimp only
  go_enter Tryz.func61, Tryz.ntmps61
  go_wp2_with (first | refine wpList_exe (kexec_lm HK 0 _ (by rfl) (by rfl) (by rfl)) (by rfl) ?_)
  refine (HM.out _).mono ?_; rintro e w1 ⟨rfl, b1⟩
  replace HK := hkC HK b1; clear b1
  go_wp2_with (first | refine wpList_exe (kexec_mn HK 0 _ (by rfl) (by rfl) (by rfl)) (by rfl) ?_ | refine wpList_exe (kexec_lm HK 0 _ (by rfl) (by rfl) (by rfl)) (by rfl) ?_ | (refine wpList_sv (f2 := l) HK 1 rfl _ _ rfl rfl rfl rfl ?_; intro _ HK'; simp only [List.set] at HK'; replace HK := HK'; clear HK'))
  refine (HT.out _).mono ?_; rintro e w1 ⟨rfl, b1⟩
  replace HK := hkC HK b1; clear b1
  go_wp2_with (first | (refine wpList_sv (f2 := l) HK 1 rfl _ _ rfl rfl rfl rfl ?_; intro _ HK'; simp only [List.set] at HK'; replace HK := HK'; clear HK'))
  exact ret_va Tryz.results61 rfl rfl rfl (HK.out.blk 1 rfl) ⟨rfl, HK.out.b⟩
 ·rw [Mt.rd_3 hok hn]
  have hix := ix_ar3 n s l m
  clear hok hn
  dsimp only
  go_enter Tryz.func61, Tryz.ntmps61
  go_wp2_with (first | refine wpList_exe (kexec_lm HK 0 _ (by rfl) (by rfl) (by rfl)) (by rfl) ?_)
  refine (HM.out _).mono ?_; rintro e w1 ⟨rfl, b1⟩
  replace HK := hkC HK b1; clear b1
  go_wp2_with (first | refine wpList_exe (kexec_mn HK 0 _ (by rfl) (by rfl) (by rfl)) (by rfl) ?_ | refine wpList_exe (kexec_lm HK 0 _ (by rfl) (by rfl) (by rfl)) (by rfl) ?_ | (refine wpList_sv (f2 := m) HK 1 rfl _ _ rfl rfl rfl rfl ?_; intro _ HK'; simp only [List.set] at HK'; replace HK := HK'; clear HK'))
  refine (HT.out _).mono ?_; rintro e w1 ⟨rfl, b1⟩
  replace HK := hkC HK b1; clear b1
  go_wp2_with (first | (refine wpList_sv (f2 := m) HK 1 rfl _ _ rfl rfl rfl rfl ?_; intro _ HK'; simp only [List.set] at HK'; replace HK := HK'; clear HK'))
  exact ret_va Tryz.results61 rfl rfl rfl (HK.out.blk 1 rfl) ⟨rfl, HK.out.b⟩
end Go.Proofs.YtpkodjllljnleaaGreat
namespace Go.Proofs.YtpkodjllljnleaaGreat
open Go.ChangeShapes Go.WideShapes Go.Deep Go.RowKit
section
variable {H : Type} {enc : TypeId × Value → H} {W : World} {base : Nat}
theorem Lift.Given.mt {ts : List TypeId} {args : List Value} {ds : List (DataW H)} {before : List MemPlace} (h : Lift.Given enc Tryz.prog (53 :: ts) W base args ds before) :
  ∃ (x : Mtr) (vs : List Value) (d : DataW H) (ds' : List (DataW H)) (q : List MemPlace), args = .agg (mL x).toArray :: vs ∧ ds = d :: ds' ∧ Mt.Fit x ∧ Lift.Given enc Tryz.prog ts W base vs ds' q := h.one opens_mt Tryz.underlying53
end
end Go.Proofs.YtpkodjllljnleaaGreat
