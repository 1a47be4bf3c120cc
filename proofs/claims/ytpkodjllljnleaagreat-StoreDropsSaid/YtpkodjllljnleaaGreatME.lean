/- An argument that is a slice of things of one kind: what the form says of it, whatever they are. No condition but those named. -/
import Derived.Test.YtpkodjllljnleaaGreatTk
import Derived.Test.YtpkodjllljnleaaGreatMD
import Derived.Test.YtpkodjllljnleaaGreatMB
import Derived.Test.YtpkodjllljnleaaGreatMA
import Derived.Test.YtpkodjllljnleaaGreatMC
import Derived.Test.YtpkodjllljnleaaGreatRows
import Derived.Deep.Slices
import Derived.Deep.Fields
import Derived.Lib.SmallJoins
import Derived.KernelRfl
import Derived.Deep.RegionWith
import Derived.Deep.RegionHeld3
import Derived.Deep.Draws
import Derived.Lib.Hide
set_option linter.unusedSimpArgs false
set_option linter.unusedVariables false
namespace Go.Proofs.YtpkodjllljnleaaGreat
open Go.ChangeShapes Go.WideShapes Go.Deep Go.RowKit
section
variable {H : Type} {enc : TypeId × Value → H} {P : Program} {W : World} {base : Nat} {α : Type}
theorem weightsAll_mem {e : TypeId} {x : DataW H} {n : Nat} (hn : n ∈ x.weights P e) : ∀ {l : List (DataW H)}, x ∈ l → n ∈ DataW.weightsAll P e l
 | d :: r, h => by
  rw [DataW.weightsAll, List.mem_append]
  rcases List.mem_cons.1 h with rfl | h
  ·exact .inl hn
  ·exact .inr (weightsAll_mem hn h)
mutual
theorem bulk_pos : ∀ (d : DataW H), 1 ≤ Rows.uptoBulk d
 | .lit l => by cases l <;> (unfold Rows.uptoBulk; omega)
 | .nil => by unfold Rows.uptoBulk; omega
 | .ptr d => by unfold Rows.uptoBulk; omega
 | .slice a b => by unfold Rows.uptoBulk; omega
 | .agg a => by unfold Rows.uptoBulk; omega
 | .iface _ d => by unfold Rows.uptoBulk; omega
 | .map _ => by unfold Rows.uptoBulk; omega
 | .held _ => by unfold Rows.uptoBulk; omega
end
theorem bulkAll_length : ∀ (l : List (DataW H)), l.length ≤ Rows.uptoBulkAll l
 | [] => Nat.zero_le _
 | d :: r => by
  rw [Rows.uptoBulkAll, List.length_cons]
  have := bulk_pos d
  have := bulkAll_length r
  omega
theorem bulkAll_mem {d : DataW H} : ∀ {l : List (DataW H)}, d ∈ l → Rows.uptoBulk d ≤ Rows.uptoBulkAll l
 | x :: r, h => by
  rw [Rows.uptoBulkAll]
  rcases List.mem_cons.1 h with rfl | h
  ·omega
  ·have := bulkAll_mem h
   omega
def Opens (enc : TypeId × Value → H) (L : Lay P α) (Good : α → DataW H → Prop) : Prop :=
 ∀ (W : World) (n : Nat) (cs : List Value) (x : DataW H × List MemPlace), DataW.trod enc P W 0 (fun _ => true) true n L.e cs = some x → ∃ it : α, cs = L.f it ∧ Good it x.1
theorem Lift.Given.things {L : Lay P α} {Good : α → DataW H → Prop} (hop : Opens enc L Good) (hcells : P.cellsOf L.e = L.k) (hbytes : P.bytesOf L.e = L.bytes)
  {ts : List TypeId} {args : List Value} {ds : List (DataW H)} {before : List MemPlace} (h : Lift.Given enc P (L.t :: ts) W base args ds before) :
  ∃ (A : Option Addr) (c : Nat) (l : List α) (vs : List Value) (d : DataW H) (ds' : List (DataW H)) (q : List MemPlace), args = .slice A l.length c :: vs ∧ ds = d :: ds' ∧ L.Reads W W.heap.size A l ∧ (A = none → l = []) ∧
   (∀ x ∈ l, ∃ dx, Good x dx ∧ (dx.weights P L.e).all (· ≤ reachBytes) = true ∧ Rows.uptoBulk dx ≤ Rows.uptoBulk d) ∧ l.length * L.bytes ≤ reachBytes ∧ l.length ≤ Rows.uptoBulk d ∧ l.length ≤ c ∧ Lift.Given enc P ts W base vs ds' q := by
 obtain ⟨v, vs, d, ds', p, q, rfl, rfl, rfl, h0, hok, _, hw, hg⟩ := h.cons
 obtain ⟨fuel, h0⟩ := h0
 obtain ⟨a0, len0, cap0, rfl⟩ := okWide_slice L.und hok
 rcases open_slice L.und h0 with ⟨hcs, hx⟩ | ⟨a, len, cap, m, n, D, Pl, hcs, _, hl, hm, hmm, hx, hi⟩
 ·simp [Value.cells] at hcs
  obtain ⟨rfl, rfl, rfl⟩ := hcs
  cases hx
  exact ⟨none, 0, [], vs, _, ds', q, rfl, rfl, Lay.Reads.nil _ _ _, fun _ => rfl, (fun x hx => by cases hx), by simp, Nat.zero_le _, Nat.zero_le _, hg⟩
 ·simp [Value.cells] at hcs
  obtain ⟨rfl, rfl, rfl⟩ := hcs
  simp only [if_true] at hmm
  subst hmm
  cases hx
  have hall : ∀ i, i < m → ∃ it : α, (∀ j u, (L.f it)[j]? = some u → W.cell? ((a.add (i * L.k)).add j) = some u) ∧ Good it (D i) := fun i him => by
   obtain ⟨cs, hc, ht⟩ := hi i him
   obtain ⟨it, rfl, hg⟩ := hop W _ _ _ ht
   rw [hcells] at hc
   obtain ⟨_, hcl, hat⟩ := World.cells?_some hc
   refine ⟨it, fun j u hu => ?_, hg⟩
   have hj := (List.getElem?_eq_some_iff.1 hu).1
   rw [L.len] at hj
   rw [hat j hj, hu]
  by_cases h0 : len0 = 0
  ·subst h0
   refine ⟨some a, m, [], vs, _, ds', q, rfl, rfl, Lay.Reads.nil _ _ _, (fun h => by cases h), (fun x hx => by cases hx), by simp, Nat.zero_le _, Nat.zero_le _, hg⟩
  have : Inhabited α := ⟨(hall 0 (by omega)).choose⟩
  obtain ⟨f, hf⟩ := choose_lt hall
  have hlen : ((List.range len0).map f).length = len0 := by simp
  have hget : ∀ i x, ((List.range len0).map f)[i]? = some x → i < len0 ∧ x = f i := fun i x hx => by
   rw [List.getElem?_map] at hx
   obtain ⟨j, hj, rfl⟩ := Option.map_eq_some_iff.1 hx
   have hlt : i < len0 := by
    rcases Nat.lt_or_ge i len0 with h | h
    ·exact h
    ·rw [List.getElem?_eq_none (by simpa using h)] at hj; cases hj
   rw [List.getElem?_range hlt] at hj
   cases hj
   exact ⟨hlt, rfl⟩
  have hmem : ∀ x ∈ (List.range len0).map f, ∃ i, i < len0 ∧ x = f i := fun x hx => by
   obtain ⟨i, hi, rfl⟩ := List.mem_map.1 hx
   exact ⟨i, List.mem_range.1 hi, rfl⟩
  have hsome : ∃ u, W.cell? a = some u := by
   have h1 := L.len (f 0)
   have h2 := L.pos
   obtain ⟨u, hu⟩ := Lay.get_of (l := L.f (f 0)) (k := 0) (by omega)
   have h3 := (hf 0 (by omega)).1 0 u hu
   simp only [Nat.zero_mul, Addr.add, if_true] at h3
   exact ⟨u, h3⟩
  obtain ⟨u0, hu0⟩ := hsome
  have ha : a = ⟨a.block, a.off, none⟩ := by
   obtain ⟨b, o, sp⟩ := a
   cases sp with
   | none => rfl
   | some z => unfold World.cell? at hu0; split at hu0 <;> simp at hu0
  have hW : (DataW.weights P L.t (.slice ((List.range len0).map D) ((List.range (m - len0)).map fun j => D (len0 + j)) : DataW H)).all (· ≤ reachBytes) = true := hw
  unfold DataW.weights at hW
  rw [L.und] at hW
  simp only [List.all_cons, List.all_append, Bool.and_eq_true, decide_eq_true_eq, List.length_map, List.length_range, hbytes] at hW
  obtain ⟨hW1, hW2, _⟩ := hW
  refine ⟨some a, m, (List.range len0).map f, vs, _, ds', q, by rw [hlen], rfl, fun hp => ?_, (fun h => by cases h), fun x hx => ?_, ?_, ?_, by rw [hlen]; exact hl, hg⟩
  ·refine ⟨a.block, a.off, by rw [← ha], World.block_lt_of_cell? W a hu0, fun i x hx j u hu => ?_⟩
   obtain ⟨hlt, rfl⟩ := hget i x hx
   have h1 := (hf i (by omega)).1 j u hu
   rw [ha, Lay.add_at, Lay.add_at] at h1
   exact h1
  ·obtain ⟨i, hi', rfl⟩ := hmem x hx
   have hD : D i ∈ (List.range len0).map D := List.mem_map.2 ⟨i, List.mem_range.2 hi', rfl⟩
   refine ⟨D i, (hf i (by omega)).2, List.all_eq_true.2 fun n hn => List.all_eq_true.1 hW2 n (weightsAll_mem hn hD), ?_⟩
   have := bulkAll_mem hD
   rw [Rows.uptoBulk]
   omega
  ·rw [hlen]
   exact Nat.le_trans (Nat.mul_le_mul_right _ (by omega)) hW1
  ·rw [hlen, Rows.uptoBulk]
   have := bulkAll_length ((List.range len0).map D)
   simp only [List.length_map, List.length_range] at this
   omega
theorem Lift.Given.thing {L : Lay P α} {Good : α → DataW H → Prop} (hop : Opens enc L Good) {fs : Array Field} (hs : P.underlying L.e = some (.struct fs))
  {ts : List TypeId} {args : List Value} {ds : List (DataW H)} {before : List MemPlace} (h : Lift.Given enc P (L.e :: ts) W base args ds before) :
  ∃ (x : α) (vs : List Value) (d : DataW H) (ds' : List (DataW H)) (q : List MemPlace), args = .agg (L.f x).toArray :: vs ∧ ds = d :: ds' ∧ Good x d ∧ (d.weights P L.e).all (· ≤ reachBytes) = true ∧ Lift.Given enc P ts W base vs ds' q := by
 obtain ⟨v, vs, d, ds', p, q, rfl, rfl, rfl, h0, hok, _, hw, hg⟩ := h.cons
 obtain ⟨fuel, h0⟩ := h0
 obtain ⟨cs, rfl, hsz⟩ := okWide_struct hs hok
 obtain ⟨it, hit, hgd⟩ := hop W _ _ _ h0
 refine ⟨it, vs, d, ds', q, ?_, rfl, hgd, hw, hg⟩
 have hc : cs.toList = L.f it := by simpa [Value.cells] using hit
 rw [← hc]
end
end Go.Proofs.YtpkodjllljnleaaGreat
set_option maxRecDepth 100000
namespace Go.Proofs.YtpkodjllljnleaaGreat
open Go.ChangeShapes Go.WideShapes Go.Deep Go.RowKit
section
variable {H : Type} {enc : TypeId × Value → H} {W : World} {base : Nat} {α : Type}
def OpensT (enc : TypeId × Value → H) (e : TypeId) (f : α → List Value) (Good : α → Prop) : Prop :=
 ∀ (W : World) (n : Nat) (cs : List Value) (x : DataW H × List MemPlace), DataW.trod enc Tryz.prog W 0 (fun _ => true) true n e cs = some x → ∃ it : α, cs = f it ∧ Good it
theorem Lift.Given.one {e : TypeId} {f : α → List Value} {Good : α → Prop} (hop : OpensT enc e f Good) {fs : Array Field} (hs : Tryz.prog.underlying e = some (.struct fs))
  {ts : List TypeId} {args : List Value} {ds : List (DataW H)} {before : List MemPlace} (h : Lift.Given enc Tryz.prog (e :: ts) W base args ds before) :
  ∃ (x : α) (vs : List Value) (d : DataW H) (ds' : List (DataW H)) (q : List MemPlace), args = .agg (f x).toArray :: vs ∧ ds = d :: ds' ∧ Good x ∧ Lift.Given enc Tryz.prog ts W base vs ds' q := by
 obtain ⟨v, vs, d, ds', p, q, rfl, rfl, rfl, h0, hok, _, hw, hg⟩ := h.cons
 obtain ⟨fuel, h0⟩ := h0
 obtain ⟨cs, rfl, hsz⟩ := okWide_struct hs hok
 obtain ⟨it, hit, hgd⟩ := hop W _ _ _ h0
 refine ⟨it, vs, d, ds', q, ?_, rfl, hgd, hg⟩
 have hc : cs.toList = f it := by simpa [Value.cells] using hit
 rw [← hc]
end
end Go.Proofs.YtpkodjllljnleaaGreat
set_option maxRecDepth 100000
namespace Go.Proofs.YtpkodjllljnleaaGreat
open Go.ChangeShapes Go.WideShapes Go.Deep Go.RowKit
def vaL (v : Val.V) : List Value := [.int .i64 v.k, .int .i64 v.n, .int .u64 (v.f : Int), .string v.s]
section
variable {H : Type} {enc : TypeId × Value → H} {W : World} {base : Nat} {α : Type}
theorem cells_val : Tryz.prog.cellsOf 27 = 4 := by kernel_rfl
theorem opens_val : OpensT enc 27 vaL (fun v => v.f < 18446744073709551616) := fun W n cs x ht => by
 obtain ⟨ys, m, _, hx, hlen, hyl, hf⟩ := DataW.trod_struct Tryz.underlying27 ht
 have hlen : cs.length = Tryz.prog.cellsOf 27 := hlen
 rw [cells_val] at hlen
 match cs, hlen, ys, hyl with
 | [v0, v1, v2, v3], _, [y0, y1, y2, y3], _ =>
  have f0 := hf 0 _ rfl
  have f1 := hf 1 _ rfl
  have f2 := hf 2 _ rfl
  have f3 := hf 3 _ rfl
  simp only [List.getElem?_cons_zero, List.getElem?_cons_succ] at f0 f1 f2 f3
  obtain ⟨a0, e0, _, _⟩ := DataW.trod_int Tryz.underlying3 f0
  obtain ⟨a1, e1, _, _⟩ := DataW.trod_int Tryz.underlying3 f1
  obtain ⟨a2, e2, _, w2⟩ := DataW.trod_int Tryz.underlying25 f2
  obtain ⟨a3, e3, _, _⟩ := DataW.trod_string Tryz.underlying9 f3
  cases e0; cases e1; cases e2; cases e3
  obtain ⟨u, rfl, hu⟩ := u64_lt w2
  exact ⟨⟨a0, a1, u, a3⟩, rfl, hu⟩
theorem Lift.Given.val {ts : List TypeId} {args : List Value} {ds : List (DataW H)} {before : List MemPlace} (h : Lift.Given enc Tryz.prog (27 :: ts) W base args ds before) :
  ∃ (x : Val.V) (vs : List Value) (d : DataW H) (ds' : List (DataW H)) (q : List MemPlace), args = .agg (vaL x).toArray :: vs ∧ ds = d :: ds' ∧ x.f < 18446744073709551616 ∧ Lift.Given enc Tryz.prog ts W base vs ds' q := h.one opens_val Tryz.underlying27
end
end Go.Proofs.YtpkodjllljnleaaGreat
namespace Go.Proofs.YtpkodjllljnleaaGreat
open Go.RowKit
def vC (k n : Int) (f : Nat) (s : ByteArray) : Array Value := #[.int .i64 k, .int .i64 n, .int .u64 (f : Int), .string s]
theorem info_v4 : (Tryz.prog.info? 27).map (·.size) = some 4 := by kernel_rfl
theorem info_i1 : (Tryz.prog.info? 3).map (·.size) = some 1 := by kernel_rfl
section
variable {b0 : Nat} {w0 w : World} {L : List (Nat × TypeId × Array Value)} {R : List RowE} {ops : Array Oper} {rest : List Oper} {o : Oper} {a : Act} {Q : Exit → Act → World → Prop} {g : Nat} {k n k2 n2 : Int} {f f2 : Nat} {s s2 : ByteArray}
theorem wpList_akv (HK : Hid (Kn b0 w0 w L R)) (hgd : o.guard = none) (ho : o.op = .alloc 27)
  (h : ∀ w' g, Hid (Kn b0 w0 w' (L ++ [(g, 27, vC 0 0 0 ⟨#[]⟩)]) R) → wpList Tryz.prog ops Q rest (a.put o.dst (.pointer (some ⟨g, 0, none⟩))) w') : wpList Tryz.prog ops Q (o :: rest) a w :=
 wpList_plain hgd fun K hK => by
  have h4 := h _ w.heap.size (zH (HK.out.alloc _ _))
  unfold Oper.wp execOp
  simp only [ho]
  unfold vC at h4
  go_simp
  exact hK _ _ h4
theorem wpList_sv (HK : Hid (Kn b0 w0 w L R)) (i : Nat) (hgd : o.guard = none) (p q : Operand) (ho : o.op = .store 27 p q) (hL : L[i]? = some (g, 27, vC k n f s)) (hx : a.eval p = .pointer (some ⟨g, 0, none⟩)) (hy : a.eval q = .agg #[.int .i64 k2, .int .i64 n2, .int .u64 (f2 : Int), .string s2])
  (h : ∀ w', Hid (Kn b0 w0 w' (L.set i (g, 27, vC k2 n2 f2 s2)) R) → wpList Tryz.prog ops Q rest (a.put o.dst undef) w') : wpList Tryz.prog ops Q (o :: rest) a w :=
 wpList_ss HK i hgd _ p q ho hL hx hy (by show 4 ≤ 4; decide) info_v4 (by simp [Value.oneCell']) fun w' h1 h2 => h w' (by
  have e : putCells (vC k n f s) 0 (#[Value.int .i64 k2, .int .i64 n2, .int .u64 (f2 : Int), .string s2] : Array Value).toList = vC k2 n2 f2 s2 := by
   show putCells (vC k n f s) 0 (vC k2 n2 f2 s2).toList = vC k2 n2 f2 s2
   rw [putCells_all (vs := (vC k2 n2 f2 s2).toList) (cs := vC k n f s) rfl, Array.toArray_toList]
  rw [e] at h1
  exact h1)
theorem kexec_vv (HK : Hid (Kn b0 w0 w L R)) (i : Nat) (x : Operand) (ho : o.op = .load 27 x) (hL : L[i]? = some (g, 27, vC k n f s)) (hx : a.eval x = .pointer (some ⟨g, 0, none⟩)) :
  (execOp a.eval o).run Tryz.prog w = .ok (.value (.agg #[.int .i64 k, .int .i64 n, .int .u64 (f : Int), .string s])) w :=
 kexec_ls HK _ x ho i hL hx (vC k n f s) (fun j _ => by rw [Nat.zero_add]) Tryz.underlying27 info_v4
end
theorem ret_v {fn : Func} {R : Ending → World → Prop} {a : Act} {w : World} {B : Nat} {k n : Int} {f : Nat} {s : ByteArray} {q : Tmp} (hf : fn.results = #[.cell q 27]) (h2 : a.tmps[q]? = some (.pointer (some ⟨B, 0, none⟩))) (hd : a.defers = []) (hb : Blk w B 27 (vC k n f s))
  (hR : R (.returned (.agg #[.int .i64 k, .int .i64 n, .int .u64 (f : Int), .string s])) w) : bodyPost Tryz.prog fn R Exit.ret a w :=
 bodyPost_ret (results_cell_row hf a.tmps w B _ _ (0, 0) _ (by simp [h2]) hb Tryz.underlying27 rfl info_v4) hd hR
end Go.Proofs.YtpkodjllljnleaaGreat
namespace Go.Proofs.YtpkodjllljnleaaGreat
open Go.RowKit
def IsB (b : Bool) (w : World) (e : Ending) (w' : World) : Prop := e = .returned (.bool b) ∧ Below w.heap.size w w'
section
variable {w : World} {ops : Array Oper} {rest : List Oper} {o : Oper} {a : Act} {Q : Exit → Act → World → Prop}
theorem exec_sub1 {j : Nat} (p : Operand) (ho : o.op = .binOp .sub 3 p (.const (.int .i64 1)) 3) (hp : a.eval p = .int .i64 ((j + 1 : Nat) : Int)) (h : j < 9223372036854775807) :
  (execOp a.eval o).run Tryz.prog w = .ok (.value (.int .i64 (j : Int))) w := by
 have hw : IntKind.i64.wrap (j : Int) = (j : Int) := by rw [IntKind.wrap_i64]; omega
 have he : a.eval (.const (.int .i64 1)) = .int .i64 1 := rfl
 unfold execOp
 simp only [ho, hp, he]
 go_simp
theorem exec_add1 {j : Nat} (p : Operand) (ho : o.op = .binOp .add 3 p (.const (.int .i64 1)) 3) (hp : a.eval p = .int .i64 (j : Int)) (h : j < 9223372036854775807) :
  (execOp a.eval o).run Tryz.prog w = .ok (.value (.int .i64 ((j + 1 : Nat) : Int))) w := by
 have hw : IntKind.i64.wrap ((j : Int) + 1) = (j : Int) + 1 := by rw [IntKind.wrap_i64]; omega
 have he : a.eval (.const (.int .i64 1)) = .int .i64 1 := rfl
 unfold execOp
 simp only [ho, hp, he]
 go_simp
theorem exec_cell {ad : Addr} {v : Value} {ty : TypeId} {d : TypeDesc} (p : Operand) (ho : o.op = .load ty p) (hx : a.eval p = .pointer (some ad)) (hc : w.cell? ad = some v) (hu : Tryz.prog.underlying ty = some d) (hd : d.isRow = false) :
  (execOp a.eval o).run Tryz.prog w = .ok (.value v) w := by
 have hagg : (isAgg ty).run Tryz.prog w = .ok false w := by
  unfold isAgg
  rw [Sem.run_bind, run_underlying hu w]
  cases d <;> simp_all
 have h : (loadVar ty ad).run Tryz.prog w = .ok v w := by
  simp [loadVar, Sem.run_bind, hagg, hc]
 unfold execOp
 simp only [ho, hx, Instr.loadAt, Instr.sureAddr, Sem.run_bind, Sem.run_pure, Result.andThen_ok, h]
theorem wpList_exe {P : Program} {w : World} {v : Value} (hr : (execOp a.eval o).run P w = .ok (.value v) w) (hw : Region.wanted o (yielded ops a.tmps) = true) (h : wpList P ops Q rest (a.put o.dst v) w) : wpList P ops Q (o :: rest) a w :=
 wpList_of_exec hw hr h
theorem exec_gt {x k : Int} {b : Bool} (p : Operand) (ho : o.op = .binOp .gtr 3 p (.const (.int .i64 k)) 3) (hp : a.eval p = .int .i64 x) (hb : decide (k < x) = b) :
  (execOp a.eval o).run Tryz.prog w = .ok (.value (.bool b)) w := by
 have he : a.eval (.const (.int .i64 k)) = .int .i64 k := rfl
 subst hb
 unfold execOp
 simp only [ho, hp, he]
 go_simp
end
theorem ret_t2 {fn : Func} {R : Ending → World → Prop} {a : Act} {w : World} {u z : Value} {q q2 : Tmp} (hf : fn.results = #[.tmp q, .tmp q2]) (h3 : a.tmps[q]? = some u) (h4 : a.tmps[q2]? = some z) (hd : a.defers = [])
  (hR : R (.returned (.tuple #[u, z])) w) : bodyPost Tryz.prog fn R Exit.ret a w := by
 refine bodyPost_ret (v := .tuple #[u, z]) ?_ hd hR
 simp [results, hf, Sem.run_bind, h3, h4]
theorem ret_t3 {fn : Func} {R : Ending → World → Prop} {a : Act} {w : World} {u z y : Value} {q q2 q3 : Tmp} (hf : fn.results = #[.tmp q, .tmp q2, .tmp q3]) (h3 : a.tmps[q]? = some u) (h4 : a.tmps[q2]? = some z) (h5 : a.tmps[q3]? = some y) (hd : a.defers = [])
  (hR : R (.returned (.tuple #[u, z, y])) w) : bodyPost Tryz.prog fn R Exit.ret a w := by
 refine bodyPost_ret (v := .tuple #[u, z, y]) ?_ hd hR
 simp [results, hf, Sem.run_bind, h3, h4, h5]
theorem step_of_exec {P : Program} {ops : Array Oper} {o : Oper} {a : Act} {w : World} {K : Act → World → Prop} {Q : Exit → Act → World → Prop} {E : Prop} {v : Value} (hw : Region.wanted o (yielded ops a.tmps) = true) (hr : (execOp a.eval o).run P w = .ok (.value v) w) (h : K (a.put o.dst v) w) :
  if Region.wanted o (yielded ops a.tmps) = true then Oper.wp P o a w K Q else E := by
 rw [if_pos hw]
 unfold Oper.wp
 rw [hr, Oper.upon_value]
 exact h
end Go.Proofs.YtpkodjllljnleaaGreat
namespace Go.Proofs.YtpkodjllljnleaaGreat
open Go.RowKit
section
variable {w : World} {ops : Array Oper} {rest : List Oper} {o : Oper} {a : Act} {Q : Exit → Act → World → Prop}
theorem veq_all (v u : Val.V) : decide (v = u) = (decide (v.k = u.k) && decide (v.n = u.n) && decide ((v.f : Int) = (u.f : Int)) && decide (v.s.toList = u.s.toList)) := by
 obtain ⟨k, n, f, s⟩ := v
 obtain ⟨k', n', f', s'⟩ := u
 have e : (⟨k, n, f, s⟩ : Val.V) = ⟨k', n', f', s'⟩ ↔ (k = k' ∧ n = n' ∧ f = f' ∧ s = s') := by simp
 show decide ((⟨k, n, f, s⟩ : Val.V) = ⟨k', n', f', s'⟩) = (decide (k = k') && decide (n = n') && decide ((f : Int) = (f' : Int)) && decide (s.toList = s'.toList))
 have e2 : ((f : Int) = (f' : Int)) ↔ f = f' := by omega
 have e4 : s.toList = s'.toList ↔ s = s' := Val.str_iff.symm
 by_cases h : (⟨k, n, f, s⟩ : Val.V) = ⟨k', n', f', s'⟩
 ·obtain ⟨rfl, rfl, rfl, rfl⟩ := e.1 h
  simp
 ·have h' := fun hh => h (e.2 hh)
  rw [decide_eq_false h]
  by_cases h1 : k = k'
  ·by_cases h2 : n = n'
   ·by_cases h3 : f = f'
    ·have h4 : ¬ s = s' := fun h4 => h' ⟨h1, h2, h3, h4⟩
     rw [decide_eq_false (fun e5 => h4 (e4.1 e5))]; simp
    ·rw [decide_eq_false (p := (f : Int) = (f' : Int)) (fun e5 => h3 (e2.1 e5))]; simp
   ·rw [decide_eq_false h2]; simp
  ·rw [decide_eq_false h1]; simp
theorem exec_veq {v u : Val.V} {b : Bool} (p q : Operand) (ho : o.op = .binOp .eql 27 p q 27) (hx : a.eval p = .agg #[.int .i64 v.k, .int .i64 v.n, .int .u64 (v.f : Int), .string v.s]) (hy : a.eval q = .agg #[.int .i64 u.k, .int .i64 u.n, .int .u64 (u.f : Int), .string u.s]) (hb : decide (v = u) = b) :
  (execOp a.eval o).run Tryz.prog w = .ok (.value (.bool b)) w := by
 rw [veq_all] at hb
 subst hb
 unfold execOp
 simp only [ho, hx, hy]
 go_simp
 by_cases h1 : v.k = u.k <;> by_cases h2 : v.n = u.n <;> by_cases h3 : (v.f : Int) = (u.f : Int) <;> by_cases h4 : v.s.toList = u.s.toList <;> simp [h1, h2, h3, h4]
theorem exec_vne {v u : Val.V} {b : Bool} (p q : Operand) (ho : o.op = .binOp .neq 27 p q 27) (hx : a.eval p = .agg #[.int .i64 v.k, .int .i64 v.n, .int .u64 (v.f : Int), .string v.s]) (hy : a.eval q = .agg #[.int .i64 u.k, .int .i64 u.n, .int .u64 (u.f : Int), .string u.s]) (hb : (!decide (v = u)) = b) :
  (execOp a.eval o).run Tryz.prog w = .ok (.value (.bool b)) w := by
 rw [veq_all] at hb
 subst hb
 unfold execOp
 simp only [ho, hx, hy]
 go_simp
 by_cases h1 : v.k = u.k <;> by_cases h2 : v.n = u.n <;> by_cases h3 : (v.f : Int) = (u.f : Int) <;> by_cases h4 : v.s.toList = u.s.toList <;> simp [h1, h2, h3, h4]
end
theorem ret_ve {fn : Func} {R : Ending → World → Prop} {a : Act} {w : World} {B : Nat} {k n : Int} {f : Nat} {s : ByteArray} {u : Value} {q q2 : Tmp} (hf : fn.results = #[.cell q 27, .tmp q2]) (h2 : a.tmps[q]? = some (.pointer (some ⟨B, 0, none⟩))) (h3 : a.tmps[q2]? = some u) (hd : a.defers = []) (hb : Blk w B 27 (vC k n f s))
  (hR : R (.returned (.tuple #[.agg #[.int .i64 k, .int .i64 n, .int .u64 (f : Int), .string s], u])) w) : bodyPost Tryz.prog fn R Exit.ret a w := by
 refine bodyPost_ret (v := .tuple #[.agg #[.int .i64 k, .int .i64 n, .int .u64 (f : Int), .string s], u]) ?_ hd hR
 have h : (loadVar 27 ⟨B, 0, none⟩).run Tryz.prog w = .ok (.agg (vC k n f s)) w := run_loadVar_row (P := Tryz.prog) w B _ _ _ (0, 0) _ hb Tryz.underlying27 rfl info_v4
 unfold vC at h
 simp [results, hf, asAddr, Sem.run_bind, h2, h3, h]
theorem ret_pve {fn : Func} {R : Ending → World → Prop} {a : Act} {w : World} {B : Nat} {k n : Int} {f : Nat} {s : ByteArray} {u z : Value} {q q2 q3 : Tmp} (hf : fn.results = #[.tmp q2, .cell q 27, .tmp q3]) (h2 : a.tmps[q]? = some (.pointer (some ⟨B, 0, none⟩))) (h3 : a.tmps[q2]? = some u) (h4 : a.tmps[q3]? = some z) (hd : a.defers = []) (hb : Blk w B 27 (vC k n f s))
  (hR : R (.returned (.tuple #[u, .agg #[.int .i64 k, .int .i64 n, .int .u64 (f : Int), .string s], z])) w) : bodyPost Tryz.prog fn R Exit.ret a w := by
 refine bodyPost_ret (v := .tuple #[u, .agg #[.int .i64 k, .int .i64 n, .int .u64 (f : Int), .string s], z]) ?_ hd hR
 have h : (loadVar 27 ⟨B, 0, none⟩).run Tryz.prog w = .ok (.agg (vC k n f s)) w := run_loadVar_row (P := Tryz.prog) w B _ _ _ (0, 0) _ hb Tryz.underlying27 rfl info_v4
 unfold vC at h
 simp [results, hf, asAddr, Sem.run_bind, h2, h3, h4, h]
theorem step_sv {b0 : Nat} {w0 w : World} {L : List (Nat × TypeId × Array Value)} {R : List RowE} {ops : Array Oper} {o : Oper} {a : Act} {Q : Exit → Act → World → Prop} {K : Act → World → Prop} {E : Prop} {g : Nat} {k n k2 n2 : Int} {f f2 : Nat} {s s2 : ByteArray} (HK : Hid (Kn b0 w0 w L R)) (i : Nat) (hgd : o.guard = none) (p q : Operand) (ho : o.op = .store 27 p q) (hL : L[i]? = some (g, 27, vC k n f s)) (hx : a.eval p = .pointer (some ⟨g, 0, none⟩)) (hy : a.eval q = .agg #[.int .i64 k2, .int .i64 n2, .int .u64 (f2 : Int), .string s2])
  (h : ∀ w', Hid (Kn b0 w0 w' (L.set i (g, 27, vC k2 n2 f2 s2)) R) → K (a.put o.dst undef) w') : if Region.wanted o (yielded ops a.tmps) = true then Oper.wp Tryz.prog o a w K Q else E :=
 step_ss HK i hgd _ p q ho hL hx hy (by show 4 ≤ 4; decide) info_v4 (by simp [Value.oneCell']) fun w' h1 _ => h w' (by
  have e : putCells (vC k n f s) 0 (#[Value.int .i64 k2, .int .i64 n2, .int .u64 (f2 : Int), .string s2] : Array Value).toList = vC k2 n2 f2 s2 := by
   show putCells (vC k n f s) 0 (vC k2 n2 f2 s2).toList = vC k2 n2 f2 s2
   rw [putCells_all (vs := (vC k2 n2 f2 s2).toList) (cs := vC k n f s) rfl, Array.toArray_toList]
  rw [e] at h1
  exact h1)
end Go.Proofs.YtpkodjllljnleaaGreat
namespace Go.Proofs.YtpkodjllljnleaaGreat
open Go.RowKit
def prL (p : Dct.Pr) : List Value := [.string p.key, .int .i64 p.val.k, .int .i64 p.val.n, .int .u64 (p.val.f : Int), .string p.val.s]
def prC (key : ByteArray) (k n : Int) (f : Nat) (s : ByteArray) : Array Value := #[.string key, .int .i64 k, .int .i64 n, .int .u64 (f : Int), .string s]
def prA (p : Dct.Pr) : Array Value := prC p.key p.val.k p.val.n p.val.f p.val.s
theorem info_prl : (Tryz.prog.info? 92).map (fun i => (i.zero, i.size, i.bytes)) = some (some (Value.agg #[.string ⟨#[]⟩, .int .i64 0, .int .i64 0, .int .u64 0, .string ⟨#[]⟩]), 5, 56) := by kernel_rfl
theorem info_pr : (Tryz.prog.info? 92).map (·.size) = some 5 := by kernel_rfl
def prLay : Lay Tryz.prog Dct.Pr where
 t := 49
 e := 92
 k := 5
 bytes := 56
 z := .agg #[.string ⟨#[]⟩, .int .i64 0, .int .i64 0, .int .u64 0, .string ⟨#[]⟩]
 f := prL
 len := fun _ => rfl
 one := fun x u hu => by
  unfold prL at hu
  simp only [List.mem_cons, List.not_mem_nil, or_false] at hu
  rcases hu with rfl | rfl | rfl | rfl | rfl <;> rfl
 und := Tryz.underlying49
 info := info_prl
 zs := rfl
 pos := by decide
 small := by decide
structure Sl (w : World) (A : Option Addr) (n c : Nat) (l : List Dct.Pr) : Prop where
 len : l.length = n
 cap : n ≤ c
 rd : prLay.Reads w w.heap.size A l
 nl : A = none → l = []
 fs : ∀ x ∈ l, x.val.f < 18446744073709551616
 big : n ≤ 2513169434916
theorem Sl.later {w w' : World} {A : Option Addr} {n c : Nat} {l : List Dct.Pr} (h : Sl w A n c l) (hb : Below w.heap.size w w') : Sl w' A n c l :=
 ⟨h.len, h.cap, h.rd.later hb (Nat.le_refl _), h.nl, h.fs, h.big⟩
theorem Sl.none (w : World) : Sl w none 0 0 [] := ⟨rfl, Nat.le_refl _, Lay.Reads.nil _ _ _, fun _ => rfl, (fun x hx => by simp at hx), by decide⟩
structure Fit (l : List Dct.Pr) : Prop where
 fs : ∀ x ∈ l, x.val.f < 18446744073709551616
 big : l.length ≤ 2513169434916
theorem Sl.fit {w : World} {A : Option Addr} {n c : Nat} {l : List Dct.Pr} (h : Sl w A n c l) : Fit l := ⟨h.fs, by rw [h.len]; exact h.big⟩
theorem Fit.wo {l : List Dct.Pr} (h : Fit l) (k : ByteArray) : Fit (Dct.wo l k) := ⟨fun x hx => h.fs x (Dct.wo_mem.1 hx).1, Nat.le_trans (List.length_filter_le _ _) h.big⟩
theorem Fit.ins {l : List Dct.Pr} (h : Fit l) (hu : Dct.Up l) (k : ByteArray) {v : Val.V} (hv : v.f < 18446744073709551616) (hn : (Dct.wo l k).length < 8) : Fit (Dct.ins l k v) := by
 have hp := Dct.ins_perm hu k v
 refine ⟨fun x hx => ?_, ?_⟩
 ·rcases List.mem_append.1 (hp.mem_iff.1 hx) with hx | hx
  ·exact (h.wo k).fs x hx
  ·rw [List.mem_singleton] at hx; subst hx; exact hv
 ·rw [hp.length_eq, List.length_append]
  show _ + 1 ≤ _
  omega
theorem Sl.own {w : World} {base : Nat} {A : Option Addr} {n c : Nat} {l : List Dct.Pr} (h : prLay.Own base w (.slice A n c) l) (hfit : Fit l) : Sl w A n c l := by
 obtain ⟨hf, hb⟩ := hfit
 have hr := h.reads
 have hn := hr.1
 subst hn
 refine ⟨rfl, h.cap, hr.2, fun hA => ?_, hf, hb⟩
 subst hA
 rcases h.2 with ⟨_, h0⟩ | ⟨g, cap, cur, e, _⟩
 ·exact List.length_eq_zero_iff.1 h0
 ·cases e
theorem Sl.at {w : World} {A : Option Addr} {n c : Nat} {l : List Dct.Pr} (h : Sl w A n c l) (hn : 0 < n) : ∃ b o, A = some ⟨b, o, Option.none⟩ ∧
  ∀ W, Below w.heap.size w W → ∀ i x, l[i]? = some x → ∀ j v, (prL x)[j]? = some v → W.cell? ⟨b, o + i * 5 + j, Option.none⟩ = some v := by
 have hl := h.len
 obtain ⟨b, o, rfl, hb, hc⟩ := h.rd (by omega)
 exact ⟨b, o, rfl, fun W hW i x hx j v hv => (hW.cell (p := ⟨b, o + i * 5 + j, Option.none⟩) hb).trans (hc i x hx j v hv)⟩
theorem Sl.take {w : World} {A : Option Addr} {n c : Nat} {l : List Dct.Pr} (h : Sl w A n c l) {hi : Nat} (h2 : hi ≤ n) : Sl w A hi c (l.take hi) :=
 ⟨by rw [List.length_take, h.len]; omega, Nat.le_trans h2 h.cap, h.rd.take hi, (fun e => by rw [h.nl e]; simp), (fun x hx => h.fs x (List.mem_of_mem_take hx)), Nat.le_trans h2 h.big⟩
def sub (A : Option Addr) (lo c : Nat) : Option Addr := if c = lo then A else A.map (·.add (lo * 5))
theorem Sl.sub {w : World} {A : Option Addr} {n c : Nat} {l : List Dct.Pr} (h : Sl w A n c l) {lo hi : Nat} (h1 : lo ≤ hi) (h2 : hi ≤ n) : Sl w (sub A lo c) (hi - lo) (c - lo) ((l.drop lo).take (hi - lo)) := by
 have hl := h.len
 have hc := h.cap
 have hb := h.big
 have hle : ((l.drop lo).take (hi - lo)).length = hi - lo := by rw [List.length_take, List.length_drop]; omega
 have hfs : ∀ x ∈ (l.drop lo).take (hi - lo), x.val.f < 18446744073709551616 := fun x hx => h.fs x (List.mem_of_mem_drop (List.mem_of_mem_take hx))
 by_cases h0 : hi - lo = 0
 ·have he : (l.drop lo).take (hi - lo) = [] := by rw [h0]; rfl
  rw [he]
  exact ⟨by rw [h0]; rfl, by omega, Lay.Reads.nil _ _ _, fun _ => rfl, (fun x hx => by simp at hx), by omega⟩
 ·obtain ⟨b, o, rfl, hb', hc'⟩ := h.rd (by omega)
  have hA : Go.Proofs.YtpkodjllljnleaaGreat.sub (some ⟨b, o, Option.none⟩) lo c = some ⟨b, o + lo * 5, Option.none⟩ := by
   unfold Go.Proofs.YtpkodjllljnleaaGreat.sub
   rw [if_neg (by omega), Option.map_some, Lay.add_at]
  rw [hA]
  have hr := ((h.rd.drop lo).take (hi - lo))
  exact ⟨hle, by omega, hr, (fun e => by cases e), hfs, by omega⟩
section
variable {b0 : Nat} {w0 w : World} {L : List (Nat × TypeId × Array Value)} {R : List RowE} {ops : Array Oper} {rest : List Oper} {o : Oper} {a : Act} {Q : Exit → Act → World → Prop} {K : Act → World → Prop} {E : Prop} {g : Nat}
theorem exec_sl_h {A : Option Addr} {n c hi : Nat} (x q : Operand) (ho : o.op = .slice 49 x none (some q) none) (hx : a.eval x = .slice A n c) (hq : a.eval q = .int .i64 (hi : Int)) (h2 : hi ≤ c) :
  (execOp a.eval o).run Tryz.prog w = .ok (.value (.slice A hi c)) w := by
 unfold execOp
 simp only [ho, Option.map_some, Option.map_none, hx, hq]
 go_simp
theorem exec_sl_lh {A : Option Addr} {n c lo hi : Nat} (x p q : Operand) (ho : o.op = .slice 49 x (some p) (some q) none) (hx : a.eval x = .slice A n c) (hp : a.eval p = .int .i64 (lo : Int)) (hq : a.eval q = .int .i64 (hi : Int)) (h1 : lo ≤ hi) (h2 : hi ≤ c) :
  (execOp a.eval o).run Tryz.prog w = .ok (.value (.slice (sub A lo c) (hi - lo) (c - lo))) w := by
 unfold execOp
 simp only [ho, Option.map_some, Option.map_none, hx, hp, hq]
 go_simp
 rfl
theorem exec_sl_l {A : Option Addr} {n c lo : Nat} (x p : Operand) (ho : o.op = .slice 49 x (some p) none none) (hx : a.eval x = .slice A n c) (hp : a.eval p = .int .i64 (lo : Int)) (h1 : lo ≤ n) :
  (execOp a.eval o).run Tryz.prog w = .ok (.value (.slice (sub A lo c) (n - lo) (c - lo))) w := by
 unfold execOp
 simp only [ho, Option.map_some, Option.map_none, hx, hp]
 go_simp
 rfl
theorem exec_ix {b off n c i : Nat} (x q : Operand) (ho : o.op = .indexAddr 49 x q) (hx : a.eval x = .slice (some ⟨b, off, none⟩) n c) (hq : a.eval q = .int .i64 (i : Int)) (h : i < n) :
  (execOp a.eval o).run Tryz.prog w = .ok (.value (.pointer (some ⟨b, off + i * 5, none⟩))) w := by
 have h1 : (0 : Int) ≤ (i : Int) := by omega
 have h2 : (i : Int) < (n : Int) := by omega
 unfold execOp
 simp only [ho, hx, hq]
 go_simp
theorem exec_slt {x y : ByteArray} {b : Bool} (p q : Operand) (ho : o.op = .binOp .lss 9 p q 9) (hx : a.eval p = .string x) (hy : a.eval q = .string y) (hb : Dct.lt x y = b) :
  (execOp a.eval o).run Tryz.prog w = .ok (.value (.bool b)) w := by
 subst hb
 unfold execOp Dct.lt
 simp only [ho, hx, hy]
 go_simp
theorem exec_sle {x y : ByteArray} {b : Bool} (p q : Operand) (ho : o.op = .binOp .leq 9 p q 9) (hx : a.eval p = .string x) (hy : a.eval q = .string y) (hb : (!Dct.lt y x) = b) :
  (execOp a.eval o).run Tryz.prog w = .ok (.value (.bool b)) w := by
 have he : (Go.Op.bytesLess x.toList y.toList || x.toList == y.toList) = b := by
  rw [← hb]
  show (Dct.lt x y || x.toList == y.toList) = !Dct.lt y x
  rcases Dct.lt_tri x y with h | rfl | h
  ·rw [h, Dct.lt_asymm h]; rfl
  ·rw [Dct.lt_irrefl]; simp
  ·rw [h, Dct.lt_asymm h]
   have hne : ¬ x.toList = y.toList := fun e => Dct.lt_ne h (Dct.toList_inj e).symm
   simp [hne]
 unfold execOp
 simp only [ho, hx, hy]
 go_simp
theorem exec_sge {x y : ByteArray} {b : Bool} (p q : Operand) (ho : o.op = .binOp .geq 9 p q 9) (hx : a.eval p = .string x) (hy : a.eval q = .string y) (hb : (!Dct.lt x y) = b) :
  (execOp a.eval o).run Tryz.prog w = .ok (.value (.bool b)) w := by
 subst hb
 unfold execOp Dct.lt
 simp only [ho, hx, hy]
 go_simp
theorem exec_seq {x y : ByteArray} {b : Bool} (p q : Operand) (ho : o.op = .binOp .eql 9 p q 9) (hx : a.eval p = .string x) (hy : a.eval q = .string y) (hb : decide (x = y) = b) :
  (execOp a.eval o).run Tryz.prog w = .ok (.value (.bool b)) w := by
 have he : (x.toList == y.toList) = b := by rw [← hb]; by_cases h : x = y <;> simp [h, Dct.eq_iff.symm]
 unfold execOp
 simp only [ho, hx, hy]
 go_simp
theorem exec_lpr {b off : Nat} {x : Dct.Pr} (p : Operand) (ho : o.op = .load 92 p) (hx : a.eval p = .pointer (some ⟨b, off, none⟩)) (hc : ∀ j v, (prL x)[j]? = some v → w.cell? ⟨b, off + j, none⟩ = some v) :
  (execOp a.eval o).run Tryz.prog w = .ok (.value (.agg (prA x))) w := by
 have hr : w.rangeAt b off (prA x).toList := fun j v hj => hc j v hj
 have h := run_loadVar_mid (P := Tryz.prog) w b off 92 (prA x).toList _ hr Tryz.underlying92 rfl (by
  have h : (Tryz.prog.info? 92).map (·.size) = some (prA x).size := info_pr
  simpa using h)
 unfold execOp
 simp only [ho, hx, Instr.loadAt, Instr.sureAddr, Sem.run_bind, Sem.run_pure, Result.andThen_ok, h, Array.toArray_toList]
theorem exec_lpv {b off off2 : Nat} {x : Dct.Pr} (p : Operand) (ho : o.op = .load 27 p) (hx : a.eval p = .pointer (some ⟨b, off2, none⟩)) (ho2 : off2 = off + 1) (hc : ∀ j v, (prL x)[j]? = some v → w.cell? ⟨b, off + j, none⟩ = some v) :
  (execOp a.eval o).run Tryz.prog w = .ok (.value (.agg #[.int .i64 x.val.k, .int .i64 x.val.n, .int .u64 (x.val.f : Int), .string x.val.s])) w := by
 subst ho2
 have hr : w.rangeAt b (off + 1) (vC x.val.k x.val.n x.val.f x.val.s).toList := fun j v hj => by
  rw [Nat.add_assoc, Nat.add_comm 1 j]
  exact hc (j + 1) v hj
 have h := run_loadVar_mid (P := Tryz.prog) w b (off + 1) 27 (vC x.val.k x.val.n x.val.f x.val.s).toList _ hr Tryz.underlying27 rfl (by
  have h : (Tryz.prog.info? 27).map (·.size) = some (vC x.val.k x.val.n x.val.f x.val.s).size := info_v4
  simpa using h)
 unfold execOp
 simp only [ho, hx, Instr.loadAt, Instr.sureAddr, Sem.run_bind, Sem.run_pure, Result.andThen_ok, h, Array.toArray_toList]
 rfl
theorem exec_lpk {b off : Nat} {x : Dct.Pr} (p : Operand) (ho : o.op = .load 9 p) (hx : a.eval p = .pointer (some ⟨b, off, none⟩)) (hc : ∀ j v, (prL x)[j]? = some v → w.cell? ⟨b, off + j, none⟩ = some v) :
  (execOp a.eval o).run Tryz.prog w = .ok (.value (.string x.key)) w :=
 exec_cell p ho hx (hc 0 _ rfl) Tryz.underlying9 rfl
theorem exec_lpn {b off off2 : Nat} {x : Dct.Pr} (p : Operand) (ho : o.op = .load 3 p) (hx : a.eval p = .pointer (some ⟨b, off2, none⟩)) (ho2 : off2 = off + 1) (hc : ∀ j v, (prL x)[j]? = some v → w.cell? ⟨b, off + j, none⟩ = some v) :
  (execOp a.eval o).run Tryz.prog w = .ok (.value (.int .i64 x.val.k)) w := by
 subst ho2
 exact exec_cell p ho hx (hc 1 _ rfl) Tryz.underlying3 rfl
theorem kexec_ppk {key : ByteArray} {k n : Int} {f : Nat} {s : ByteArray} (HK : Hid (Kn b0 w0 w L R)) (i : Nat) (x : Operand) (ho : o.op = .load 9 x) (hL : L[i]? = some (g, 92, prC key k n f s)) (hx : a.eval x = .pointer (some ⟨g, 0, none⟩)) :
  (execOp a.eval o).run Tryz.prog w = .ok (.value (.string key)) w := kexec_lc HK _ x ho i hL hx rfl Tryz.underlying9 rfl
theorem kexec_ppv {key : ByteArray} {k n : Int} {f : Nat} {s : ByteArray} (HK : Hid (Kn b0 w0 w L R)) (i : Nat) (x : Operand) (ho : o.op = .load 27 x) (hL : L[i]? = some (g, 92, prC key k n f s)) (hx : a.eval x = .pointer (some ⟨g, 1, none⟩)) :
  (execOp a.eval o).run Tryz.prog w = .ok (.value (.agg #[.int .i64 k, .int .i64 n, .int .u64 (f : Int), .string s])) w :=
 kexec_ls HK _ x ho i hL hx #[.int .i64 k, .int .i64 n, .int .u64 (f : Int), .string s] (fun j hj => by
  match j, hj with
  | 0, _ | 1, _ | 2, _ | 3, _ => rfl) Tryz.underlying27 info_v4
theorem wpList_akp (HK : Hid (Kn b0 w0 w L R)) (hgd : o.guard = none) (ho : o.op = .alloc 92)
  (h : ∀ w' g, Hid (Kn b0 w0 w' (L ++ [(g, 92, prC ⟨#[]⟩ 0 0 0 ⟨#[]⟩)]) R) → wpList Tryz.prog ops Q rest (a.put o.dst (.pointer (some ⟨g, 0, none⟩))) w') : wpList Tryz.prog ops Q (o :: rest) a w :=
 wpList_plain hgd fun K hK => by
  have h4 := h _ w.heap.size (zH (HK.out.alloc _ _))
  unfold Oper.wp execOp
  simp only [ho]
  unfold prC at h4
  go_simp
  exact hK _ _ h4
theorem wpList_sp {p1 p2 : Dct.Pr} (HK : Hid (Kn b0 w0 w L R)) (i : Nat) (hgd : o.guard = none) (p q : Operand) (ho : o.op = .store 92 p q) (hL : L[i]? = some (g, 92, prA p1)) (hx : a.eval p = .pointer (some ⟨g, 0, none⟩)) (hy : a.eval q = .agg (prA p2))
  (h : ∀ w', Hid (Kn b0 w0 w' (L.set i (g, 92, prA p2)) R) → wpList Tryz.prog ops Q rest (a.put o.dst undef) w') : wpList Tryz.prog ops Q (o :: rest) a w :=
 wpList_ss HK i hgd _ p q ho hL hx hy (by show 5 ≤ 5; decide) info_pr (by simp [prA, prC, Value.oneCell']) fun w' h1 h2 => h w' (by
  have e : putCells (prA p1) 0 (prA p2).toList = prA p2 := by
   rw [putCells_all (vs := (prA p2).toList) (cs := prA p1) rfl, Array.toArray_toList]
  rw [e] at h1
  exact h1)
theorem Kn.mkP (h : Kn b0 w0 w L R) (l : List Dct.Pr) (C : Array Value) (hC : C = (prLay.flat l).toArray) (n : Nat) (hn : n = l.length) (hl : l.length ≤ 65536) :
  Kn b0 w0 (w.alloc (.cells C prLay.e)) L (R ++ [row prLay (.slice (some ⟨w.heap.size, 0, none⟩) n n) l]) :=
 h.called ((Below.refl _ w).alloc (Nat.le_refl _) _) (Lay.Own.new w l C _ _ _ hC (Nat.le_refl _) rfl hn hn hl)
theorem wpList_mp0 (HK : Hid (Kn b0 w0 w L R)) (hgd : o.guard = none) (ho : o.op = .buildSlice 49 0 #[])
  (h : ∀ w' g, Hid (Kn b0 w0 w' L (R ++ [row prLay (.slice (some ⟨g, 0, none⟩) 0 0) []])) → wpList Tryz.prog ops Q rest (a.put o.dst (.slice (some ⟨g, 0, none⟩) 0 0)) w') : wpList Tryz.prog ops Q (o :: rest) a w :=
 wpList_plain hgd fun K hK => by
  have h4 := h _ w.heap.size (zH (HK.out.mkP [] #[] rfl 0 rfl (by show 0 ≤ 65536; decide)))
  have hr : (Instr.buildSlice 49 0 #[]).run Tryz.prog w = .ok (.slice (some ⟨w.heap.size, 0, none⟩) 0 0) (w.alloc (.cells #[] prLay.e)) := by
   go_simp
   rfl
  unfold Oper.wp execOp
  simp only [ho, Sem.run_bind, Sem.run_pure, Result.andThen_ok, List.map_toArray, List.map_nil, hr]
  exact hK _ _ h4
theorem wpList_mp1 (HK : Hid (Kn b0 w0 w L R)) (hgd : o.guard = none) (x : Operand) (ho : o.op = .buildSlice 49 1 #[(0, x)]) {p : Dct.Pr} (hx : a.eval x = .agg (prA p))
  (h : ∀ w' g, Hid (Kn b0 w0 w' L (R ++ [row prLay (.slice (some ⟨g, 0, none⟩) 1 1) [p]])) → wpList Tryz.prog ops Q rest (a.put o.dst (.slice (some ⟨g, 0, none⟩) 1 1)) w') : wpList Tryz.prog ops Q (o :: rest) a w :=
 wpList_plain hgd fun K hK => by
  have h4 := h _ w.heap.size (zH (HK.out.mkP [p] (prA p) rfl 1 rfl (by show 1 ≤ 65536; decide)))
  have hr : (Instr.buildSlice 49 1 #[(0, .agg (prA p))]).run Tryz.prog w = .ok (.slice (some ⟨w.heap.size, 0, none⟩) 1 1) (w.alloc (.cells (prA p) prLay.e)) := by
   unfold prA prC
   go_simp
   rfl
  unfold Oper.wp execOp
  simp only [ho, Sem.run_bind, Sem.run_pure, Result.andThen_ok, List.map_toArray, List.map_cons, List.map_nil, hx, hr]
  exact hK _ _ h4
theorem kwp_ms1 (HK : Hid (Kn b0 w0 w L R)) (x : Operand) (ho : o.op = .buildSlice 138 1 #[(0, x)]) {A : Option Addr} {n c : Nat} (hx : a.eval x = .slice A n c)
  (h : ∀ w' g, Hid (Kn b0 w0 w' (L ++ [(g, 49, #[.slice A n c])]) R) → Hid (Below w.heap.size w w') → K (a.put o.dst (.slice (some ⟨g, 0, none⟩) 1 1)) w') : o.wp Tryz.prog a w K Q := by
 have h4 := h _ w.heap.size (zH (HK.out.alloc 49 #[.slice A n c])) (zH ((Below.refl _ w).alloc (Nat.le_refl _) _))
 have hr : (Instr.buildSlice 138 1 #[(0, .slice A n c)]).run Tryz.prog w = .ok (.slice (some ⟨w.heap.size, 0, none⟩) 1 1) (w.alloc (.cells #[.slice A n c] 49)) := by
  go_simp
 unfold Oper.wp execOp
 simp only [ho, Sem.run_bind, Sem.run_pure, Result.andThen_ok, List.map_toArray, List.map_cons, List.map_nil, hx, hr]
 exact h4
theorem wpList_ms1 (HK : Hid (Kn b0 w0 w L R)) (hgd : o.guard = none) (x : Operand) (ho : o.op = .buildSlice 138 1 #[(0, x)]) {A : Option Addr} {n c : Nat} (hx : a.eval x = .slice A n c)
  (h : ∀ w' g, Hid (Kn b0 w0 w' (L ++ [(g, 49, #[.slice A n c])]) R) → Hid (Below w.heap.size w w') → wpList Tryz.prog ops Q rest (a.put o.dst (.slice (some ⟨g, 0, none⟩) 1 1)) w') : wpList Tryz.prog ops Q (o :: rest) a w :=
 wpList_plain hgd fun _ hK => kwp_ms1 HK x ho hx fun w' g h1 h2 => hK _ _ (h w' g h1 h2)
theorem step_ms1 (HK : Hid (Kn b0 w0 w L R)) (hgd : o.guard = none) (x : Operand) (ho : o.op = .buildSlice 138 1 #[(0, x)]) {A : Option Addr} {n c : Nat} (hx : a.eval x = .slice A n c)
  (h : ∀ w' g, Hid (Kn b0 w0 w' (L ++ [(g, 49, #[.slice A n c])]) R) → Hid (Below w.heap.size w w') → K (a.put o.dst (.slice (some ⟨g, 0, none⟩) 1 1)) w') : if Region.wanted o (yielded ops a.tmps) = true then Oper.wp Tryz.prog o a w K Q else E := by
 rw [if_pos (by simp [Region.wanted, hgd])]
 exact kwp_ms1 HK x ho hx h
theorem wpList_ms2 (HK : Hid (Kn b0 w0 w L R)) (hgd : o.guard = none) (x y : Operand) (ho : o.op = .buildSlice 138 2 #[(0, x), (1, y)]) {A A2 : Option Addr} {n c n2 c2 : Nat} (hx : a.eval x = .slice A n c) (hy : a.eval y = .slice A2 n2 c2)
  (h : ∀ w' g, Hid (Kn b0 w0 w' (L ++ [(g, 49, #[.slice A n c, .slice A2 n2 c2])]) R) → Hid (Below w.heap.size w w') → wpList Tryz.prog ops Q rest (a.put o.dst (.slice (some ⟨g, 0, none⟩) 2 2)) w') : wpList Tryz.prog ops Q (o :: rest) a w :=
 wpList_plain hgd fun K hK => by
  have h4 := h _ w.heap.size (zH (HK.out.alloc 49 #[.slice A n c, .slice A2 n2 c2])) (zH ((Below.refl _ w).alloc (Nat.le_refl _) _))
  have hr : (Instr.buildSlice 138 2 #[(0, .slice A n c), (1, .slice A2 n2 c2)]).run Tryz.prog w = .ok (.slice (some ⟨w.heap.size, 0, none⟩) 2 2) (w.alloc (.cells #[.slice A n c, .slice A2 n2 c2] 49)) := by
   go_simp
  unfold Oper.wp execOp
  simp only [ho, Sem.run_bind, Sem.run_pure, Result.andThen_ok, List.map_toArray, List.map_cons, List.map_nil, hx, hy, hr]
  exact hK _ _ h4
theorem wpList_ms3 (HK : Hid (Kn b0 w0 w L R)) (hgd : o.guard = none) (x y z : Operand) (ho : o.op = .buildSlice 138 3 #[(0, x), (1, y), (2, z)]) {A A2 A3 : Option Addr} {n c n2 c2 n3 c3 : Nat} (hx : a.eval x = .slice A n c) (hy : a.eval y = .slice A2 n2 c2) (hz : a.eval z = .slice A3 n3 c3)
  (h : ∀ w' g, Hid (Kn b0 w0 w' (L ++ [(g, 49, #[.slice A n c, .slice A2 n2 c2, .slice A3 n3 c3])]) R) → Hid (Below w.heap.size w w') → wpList Tryz.prog ops Q rest (a.put o.dst (.slice (some ⟨g, 0, none⟩) 3 3)) w') : wpList Tryz.prog ops Q (o :: rest) a w :=
 wpList_plain hgd fun K hK => by
  have h4 := h _ w.heap.size (zH (HK.out.alloc 49 #[.slice A n c, .slice A2 n2 c2, .slice A3 n3 c3])) (zH ((Below.refl _ w).alloc (Nat.le_refl _) _))
  have hr : (Instr.buildSlice 138 3 #[(0, .slice A n c), (1, .slice A2 n2 c2), (2, .slice A3 n3 c3)]).run Tryz.prog w = .ok (.slice (some ⟨w.heap.size, 0, none⟩) 3 3) (w.alloc (.cells #[.slice A n c, .slice A2 n2 c2, .slice A3 n3 c3] 49)) := by
   go_simp
  unfold Oper.wp execOp
  simp only [ho, Sem.run_bind, Sem.run_pure, Result.andThen_ok, List.map_toArray, List.map_cons, List.map_nil, hx, hy, hz, hr]
  exact hK _ _ h4
end
def IsL (r : List Dct.Pr) (w : World) (e : Ending) (w' : World) : Prop := ∃ A n c, e = .returned (.slice A n c) ∧ prLay.Own w.heap.size w' (.slice A n c) r ∧ Below w.heap.size w w'
end Go.Proofs.YtpkodjllljnleaaGreat
namespace Go.Proofs.YtpkodjllljnleaaGreat
open Go.RowKit
def nz2 (a b : Int) : Int := if a = 0 then b else a
set_option maxHeartbeats 1600000 in
theorem or2_any (g : Nat) (a b : Int) (w : World) (h0 : w.cell? ⟨g, 0, none⟩ = some (.int .i64 a)) (h1 : w.cell? ⟨g, 1, none⟩ = some (.int .i64 b)) :
  Calls Tryz.prog 94 #[.slice (some ⟨g, 0, none⟩) 2 2] w fun e w' => e = .returned (.int .i64 (nz2 a b)) ∧ w' = w := by
 unfold nz2
 by_cases ha : a = 0
 ·subst ha
  rw [if_pos rfl]
  by_cases hb : b = 0
  ·subst hb
   go_enter Tryz.func94, Tryz.ntmps94
   go_wp2
   go_rounds 3
   all_goals
    go_ret
    exact ⟨rfl, rfl⟩
  ·have hb2 : (b != 0) = true := by simpa using hb
   go_enter Tryz.func94, Tryz.ntmps94
   go_wp2
   go_rounds 3
   all_goals
    go_ret
    exact ⟨rfl, rfl⟩
 ·rw [if_neg ha]
  have ha2 : (a != 0) = true := by simpa using ha
  go_enter Tryz.func94, Tryz.ntmps94
  go_wp2
  go_rounds 3
  all_goals
   go_ret
   exact ⟨rfl, rfl⟩
theorem or2a_any (a b : Int) (W : World) (t : TypeId) (g : Nat) (hg : g = W.heap.size) : Calls Tryz.prog 94 #[.slice (some ⟨g, 0, none⟩) 2 2] (W.alloc (.cells #[.int .i64 a, .int .i64 b] t)) fun en w' => en = .returned (.int .i64 (nz2 a b)) ∧ w' = W.alloc (.cells #[.int .i64 a, .int .i64 b] t) := by
 subst hg
 exact or2_any _ a b _ (by rw [World.cell?_alloc_new]; rfl) (by rw [World.cell?_alloc_new]; rfl)
end Go.Proofs.YtpkodjllljnleaaGreat
