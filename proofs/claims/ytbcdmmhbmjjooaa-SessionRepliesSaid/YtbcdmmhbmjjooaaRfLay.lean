/-
  How requests lie in a slice; loads of one, of its client; blocks that hold one; two compared; ways out; arguments that are requests, or slices of them.
  No condition but the form's own.
-/
import Derived.Test.YtbcdmmhbmjjooaaLockMath
import Derived.Test.YtbcdmmhbmjjooaaSlm
import Derived.Test.YtbcdmmhbmjjooaaExn
import Derived.Test.YtbcdmmhbmjjooaaLayOpen
import Derived.KernelRfl
set_option linter.unusedSimpArgs false
set_option linter.unusedVariables false
set_option maxRecDepth 100000
namespace Go.Proofs.Ytbcdmmhbmjjooaa
open Go.ChangeShapes Go.WideShapes Go.Deep Go.RowKit

def rfL (x : Rf) : List Value := [.int .i64 x.c, .int .i64 x.e, .int .i64 x.r]
/-- A request's cells. -/
def rfC (c e r : Int) : Array Value := #[.int .i64 c, .int .i64 e, .int .i64 r]
theorem info_rfl : (Try.prog.info? 32).map (fun i => (i.zero, i.size, i.bytes)) = some (some (Value.agg #[.int .i64 0, .int .i64 0, .int .i64 0]), 3, 24) := by kernel_rfl
theorem info_rf3 : (Try.prog.info? 32).map (·.size) = some 3 := by kernel_rfl
def rfLay : Lay Try.prog Rf where
  t := 44
  e := 32
  k := 3
  bytes := 24
  z := .agg #[.int .i64 0, .int .i64 0, .int .i64 0]
  f := rfL
  len := fun _ => rfl
  one := fun x u hu => by
    unfold rfL at hu
    simp only [List.mem_cons, List.not_mem_nil, or_false] at hu
    rcases hu with rfl | rfl | rfl <;> rfl
  und := Try.underlying44
  info := info_rfl
  zs := rfl
  pos := by decide
  small := by decide
def rF (_ : Rf) : Prop := True
/-- A request as a value. -/
def rv (x : Rf) : Value := .agg #[.int .i64 x.c, .int .i64 x.e, .int .i64 x.r]
section
variable {w : World} {o : Oper} {a : Act}
theorem exec_lr {b off : Nat} {x : Rf} (p : Operand) (ho : o.op = .load 32 p) (hx : a.eval p = .pointer (some ⟨b, off, none⟩)) (hc : ∀ j v, (rfL x)[j]? = some v → w.cell? ⟨b, off + j, none⟩ = some v) :
    (execOp a.eval o).run Try.prog w = .ok (.value (.agg #[.int .i64 x.c, .int .i64 x.e, .int .i64 x.r])) w :=
  exec_slv rfLay (x := x) p ho hx Try.underlying32 hc
theorem exec_lrc {b off : Nat} {x : Rf} (p : Operand) (ho : o.op = .load 3 p) (hx : a.eval p = .pointer (some ⟨b, off, none⟩)) (hc : ∀ j v, (rfL x)[j]? = some v → w.cell? ⟨b, off + j, none⟩ = some v) :
    (execOp a.eval o).run Try.prog w = .ok (.value (.int .i64 x.c)) w :=
  exec_cell p ho hx (hc 0 _ rfl) Try.underlying3 rfl
theorem exec_lre {b off : Nat} {x : Rf} (p : Operand) (ho : o.op = .load 3 p) (hx : a.eval p = .pointer (some ⟨b, off + 1, none⟩)) (hc : ∀ j v, (rfL x)[j]? = some v → w.cell? ⟨b, off + j, none⟩ = some v) :
    (execOp a.eval o).run Try.prog w = .ok (.value (.int .i64 x.e)) w :=
  exec_cell p ho hx (hc 1 _ rfl) Try.underlying3 rfl
theorem exec_ixr {b off n c i : Nat} (x q : Operand) (ho : o.op = .indexAddr 44 x q) (hx : a.eval x = .slice (some ⟨b, off, none⟩) n c) (hq : a.eval q = .int .i64 (i : Int)) (h : i < n) :
    (execOp a.eval o).run Try.prog w = .ok (.value (.pointer (some ⟨b, off + i * 3, none⟩))) w := exec_slx rfLay x q ho hx hq h
theorem exec_srl {A : Option Addr} {n c lo : Nat} (x p : Operand) (ho : o.op = .slice 44 x (some p) none none) (hx : a.eval x = .slice A n c) (hp : a.eval p = .int .i64 (lo : Int)) (h1 : lo ≤ n) :
    (execOp a.eval o).run Try.prog w = .ok (.value (.slice (subA 3 A lo c) (n - lo) (c - lo))) w := exec_sls_l rfLay x p ho hx hp h1
theorem exec_srh {A : Option Addr} {n c hi : Nat} (x q : Operand) (ho : o.op = .slice 44 x none (some q) none) (hx : a.eval x = .slice A n c) (hq : a.eval q = .int .i64 (hi : Int)) (h2 : hi ≤ c) :
    (execOp a.eval o).run Try.prog w = .ok (.value (.slice A hi c)) w := exec_sls_h rfLay x q ho hx hq h2
theorem req_all (v u : Rf) : decide (v = u) = (decide (v.c = u.c) && decide (v.e = u.e) && decide (v.r = u.r)) := by
  obtain ⟨c, e, r⟩ := v
  obtain ⟨c', e', r'⟩ := u
  rw [Bool.eq_iff_iff]
  simp [and_assoc]
theorem exec_req {v u : Rf} {b : Bool} (p q : Operand) (ho : o.op = .binOp .eql 32 p q 32) (hx : a.eval p = .agg #[.int .i64 v.c, .int .i64 v.e, .int .i64 v.r]) (hy : a.eval q = .agg #[.int .i64 u.c, .int .i64 u.e, .int .i64 u.r]) (hb : decide (v = u) = b) :
    (execOp a.eval o).run Try.prog w = .ok (.value (.bool b)) w := by
  rw [req_all] at hb
  subst hb
  unfold execOp
  simp only [ho, hx, hy]
  go_simp
  by_cases h1 : v.c = u.c <;> by_cases h2 : v.e = u.e <;> by_cases h3 : v.r = u.r <;> simp [h1, h2, h3]
theorem exec_rne {v u : Rf} {b : Bool} (p q : Operand) (ho : o.op = .binOp .neq 32 p q 32) (hx : a.eval p = .agg #[.int .i64 v.c, .int .i64 v.e, .int .i64 v.r]) (hy : a.eval q = .agg #[.int .i64 u.c, .int .i64 u.e, .int .i64 u.r]) (hb : (!decide (v = u)) = b) :
    (execOp a.eval o).run Try.prog w = .ok (.value (.bool b)) w := by
  rw [req_all] at hb
  subst hb
  unfold execOp
  simp only [ho, hx, hy]
  go_simp
  by_cases h1 : v.c = u.c <;> by_cases h2 : v.e = u.e <;> by_cases h3 : v.r = u.r <;> simp [h1, h2, h3]
end
theorem req_self (x : Rf) : decide (x = x) = true := decide_eq_true rfl
theorem rne_self (x : Rf) : (!decide (x = x)) = false := by rw [decide_eq_true rfl]; rfl
section
variable {b0 : Nat} {w0 w : World} {L : List (Nat × TypeId × Array Value)} {R : List RowE} {ops : Array Oper} {rest : List Oper} {o : Oper} {a : Act} {Q : Exit → Act → World → Prop} {K : Act → World → Prop} {E : Prop} {g : Nat} {c e r c2 e2 r2 : Int}
theorem wpList_akr (HK : Hid (Kn b0 w0 w L R)) (hgd : o.guard = none) (ho : o.op = .alloc 32)
    (h : ∀ w' g, Hid (Kn b0 w0 w' (L ++ [(g, 32, #[.int .i64 0, .int .i64 0, .int .i64 0])]) R) → wpList Try.prog ops Q rest (a.put o.dst (.pointer (some ⟨g, 0, none⟩))) w') : wpList Try.prog ops Q (o :: rest) a w :=
  wpList_ak rfLay HK hgd ho h
theorem wpList_sr (HK : Hid (Kn b0 w0 w L R)) (i : Nat) (hgd : o.guard = none) (p q : Operand) (ho : o.op = .store 32 p q) (hL : L[i]? = some (g, 32, #[.int .i64 c, .int .i64 e, .int .i64 r])) (hx : a.eval p = .pointer (some ⟨g, 0, none⟩)) (hy : a.eval q = .agg #[.int .i64 c2, .int .i64 e2, .int .i64 r2])
    (h : ∀ w', Hid (Kn b0 w0 w' (L.set i (g, 32, #[.int .i64 c2, .int .i64 e2, .int .i64 r2])) R) → wpList Try.prog ops Q rest (a.put o.dst undef) w') : wpList Try.prog ops Q (o :: rest) a w :=
  wpList_st rfLay (p2 := ⟨c2, e2, r2⟩) HK i hgd p q ho hL rfl hx hy h
theorem step_sr (HK : Hid (Kn b0 w0 w L R)) (i : Nat) (hgd : o.guard = none) (p q : Operand) (ho : o.op = .store 32 p q) (hL : L[i]? = some (g, 32, #[.int .i64 c, .int .i64 e, .int .i64 r])) (hx : a.eval p = .pointer (some ⟨g, 0, none⟩)) (hy : a.eval q = .agg #[.int .i64 c2, .int .i64 e2, .int .i64 r2])
    (h : ∀ w', Hid (Kn b0 w0 w' (L.set i (g, 32, #[.int .i64 c2, .int .i64 e2, .int .i64 r2])) R) → K (a.put o.dst undef) w') : if Region.wanted o (yielded ops a.tmps) = true then Oper.wp Try.prog o a w K Q else E :=
  step_st rfLay (p2 := ⟨c2, e2, r2⟩) HK i hgd p q ho hL rfl hx hy h
theorem kexec_lr (HK : Hid (Kn b0 w0 w L R)) (i : Nat) (x : Operand) (ho : o.op = .load 32 x) (hL : L[i]? = some (g, 32, #[.int .i64 c, .int .i64 e, .int .i64 r])) (hx : a.eval x = .pointer (some ⟨g, 0, none⟩)) :
    (execOp a.eval o).run Try.prog w = .ok (.value (.agg #[.int .i64 c, .int .i64 e, .int .i64 r])) w :=
  kexec_ld rfLay (p := ⟨c, e, r⟩) Try.underlying32 HK i x ho hL hx
/-- A field of a block's request. -/
theorem kexec_lc0 (HK : Hid (Kn b0 w0 w L R)) (i : Nat) (x : Operand) (ho : o.op = .load 3 x) (hL : L[i]? = some (g, 32, #[.int .i64 c, .int .i64 e, .int .i64 r])) (hx : a.eval x = .pointer (some ⟨g, 0, none⟩)) :
    (execOp a.eval o).run Try.prog w = .ok (.value (.int .i64 c)) w :=
  kexec_lc HK 3 x ho i hL hx (v := .int .i64 c) rfl Try.underlying3 rfl
theorem kexec_lc1 (HK : Hid (Kn b0 w0 w L R)) (i : Nat) (x : Operand) (ho : o.op = .load 3 x) (hL : L[i]? = some (g, 32, #[.int .i64 c, .int .i64 e, .int .i64 r])) (hx : a.eval x = .pointer (some ⟨g, 1, none⟩)) :
    (execOp a.eval o).run Try.prog w = .ok (.value (.int .i64 e)) w :=
  kexec_lc HK 3 x ho i hL hx (v := .int .i64 e) rfl Try.underlying3 rfl
end
section
variable {fn : Func} {R : Ending → World → Prop} {a : Act} {w : World} {B : Nat} {c e r : Int} {u z y : Value} {q q2 q3 q4 : Tmp}
theorem load_blk (hb : Blk w B 32 (rfC c e r)) : (loadVar 32 ⟨B, 0, none⟩).run Try.prog w = .ok (.agg #[.int .i64 c, .int .i64 e, .int .i64 r]) w :=
  run_loadVar_row (P := Try.prog) w B _ _ _ (0, 0) _ hb Try.underlying32 rfl info_rf3
theorem ret_r (hf : fn.results = #[.cell q 32]) (h2 : a.tmps[q]? = some (.pointer (some ⟨B, 0, none⟩))) (hd : a.defers = []) (hb : Blk w B 32 (rfC c e r))
    (hR : R (.returned (.agg #[.int .i64 c, .int .i64 e, .int .i64 r])) w) : bodyPost Try.prog fn R Exit.ret a w := by
  refine bodyPost_ret (v := .agg #[.int .i64 c, .int .i64 e, .int .i64 r]) ?_ hd hR
  simp [results, hf, asAddr, Sem.run_bind, h2, load_blk hb]
theorem ret_rb (hf : fn.results = #[.cell q 32, .tmp q2]) (h2 : a.tmps[q]? = some (.pointer (some ⟨B, 0, none⟩))) (h3 : a.tmps[q2]? = some u) (hd : a.defers = []) (hb : Blk w B 32 (rfC c e r))
    (hR : R (.returned (.tuple #[.agg #[.int .i64 c, .int .i64 e, .int .i64 r], u])) w) : bodyPost Try.prog fn R Exit.ret a w := by
  refine bodyPost_ret (v := .tuple #[.agg #[.int .i64 c, .int .i64 e, .int .i64 r], u]) ?_ hd hR
  simp [results, hf, asAddr, Sem.run_bind, h2, h3, load_blk hb]
theorem ret_srb (hf : fn.results = #[.tmp q2, .cell q 32, .tmp q3]) (h2 : a.tmps[q]? = some (.pointer (some ⟨B, 0, none⟩))) (h3 : a.tmps[q2]? = some u) (h4 : a.tmps[q3]? = some z) (hd : a.defers = []) (hb : Blk w B 32 (rfC c e r))
    (hR : R (.returned (.tuple #[u, .agg #[.int .i64 c, .int .i64 e, .int .i64 r], z])) w) : bodyPost Try.prog fn R Exit.ret a w := by
  refine bodyPost_ret (v := .tuple #[u, .agg #[.int .i64 c, .int .i64 e, .int .i64 r], z]) ?_ hd hR
  simp [results, hf, asAddr, Sem.run_bind, h2, h3, h4, load_blk hb]
theorem ret_srbe (hf : fn.results = #[.tmp q2, .cell q 32, .tmp q3, .tmp q4]) (h2 : a.tmps[q]? = some (.pointer (some ⟨B, 0, none⟩))) (h3 : a.tmps[q2]? = some u) (h4 : a.tmps[q3]? = some z) (h5 : a.tmps[q4]? = some y) (hd : a.defers = []) (hb : Blk w B 32 (rfC c e r))
    (hR : R (.returned (.tuple #[u, .agg #[.int .i64 c, .int .i64 e, .int .i64 r], z, y])) w) : bodyPost Try.prog fn R Exit.ret a w := by
  refine bodyPost_ret (v := .tuple #[u, .agg #[.int .i64 c, .int .i64 e, .int .i64 r], z, y]) ?_ hd hR
  simp [results, hf, asAddr, Sem.run_bind, h2, h3, h4, h5, load_blk hb]
end
section
variable {H : Type} {enc : TypeId × Value → H} {W : World} {base : Nat}
theorem cells_rf : Try.prog.cellsOf 32 = 3 := by kernel_rfl
theorem bytes_rf : Try.prog.bytesOf 32 = 24 := by kernel_rfl
theorem opens_rf : Opens enc rfLay (fun _ _ => True) := fun W n cs x ht => by
  obtain ⟨ys, m, _, hx, hlen, hyl, hf⟩ := DataW.trod_struct Try.underlying32 ht
  have hlen : cs.length = Try.prog.cellsOf 32 := hlen
  rw [cells_rf] at hlen
  match cs, hlen, ys, hyl with
  | [v0, v1, v2], _, [y0, y1, y2], _ =>
    have f0 := hf 0 _ rfl
    have f1 := hf 1 _ rfl
    have f2 := hf 2 _ rfl
    simp only [List.getElem?_cons_zero, List.getElem?_cons_succ] at f0 f1 f2
    obtain ⟨a0, e0, _, _⟩ := DataW.trod_int Try.underlying3 f0
    obtain ⟨a1, e1, _, _⟩ := DataW.trod_int Try.underlying3 f1
    obtain ⟨a2, e2, _, _⟩ := DataW.trod_int Try.underlying3 f2
    cases e0; cases e1; cases e2
    exact ⟨⟨a0, a1, a2⟩, rfl, trivial⟩
theorem Lift.Given.refs {ts : List TypeId} {args : List Value} {ds : List (DataW H)} {before : List MemPlace} (h : Lift.Given enc Try.prog (44 :: ts) W base args ds before) :
    ∃ (A : Option Addr) (c : Nat) (l : List Rf) (vs : List Value) (d : DataW H) (ds' : List (DataW H)) (q : List MemPlace), args = .slice A l.length c :: vs ∧ ds = d :: ds' ∧ Sls rfLay rF W A l.length c l ∧ Lift.Given enc Try.prog ts W base vs ds' q := by
  obtain ⟨A, c, l, vs, d, ds', q, h1, h2, h3, h4, h5, h6, _, h8, h9⟩ := h.things (L := rfLay) opens_rf cells_rf bytes_rf
  have hb : l.length * 24 ≤ reachBytes := h6
  refine ⟨A, c, l, vs, d, ds', q, h1, h2, ⟨rfl, h8, h3, h4, fun x hx => trivial, ?_⟩, h9⟩
  have : reachBytes = 140737488351232 := rfl
  show l.length * 24 ≤ _
  omega
theorem Lift.Given.ref {ts : List TypeId} {args : List Value} {ds : List (DataW H)} {before : List MemPlace} (h : Lift.Given enc Try.prog (32 :: ts) W base args ds before) :
    ∃ (x : Rf) (vs : List Value) (d : DataW H) (ds' : List (DataW H)) (q : List MemPlace), args = .agg #[.int .i64 x.c, .int .i64 x.e, .int .i64 x.r] :: vs ∧ ds = d :: ds' ∧ Lift.Given enc Try.prog ts W base vs ds' q := by
  obtain ⟨x, vs, d, ds', q, h1, h2, _, _, h5⟩ := h.thing (L := rfLay) opens_rf Try.underlying32
  exact ⟨x, vs, d, ds', q, h1, h2, h5⟩
end
end Go.Proofs.Ytbcdmmhbmjjooaa
