/-
  How replies lie: blocks that hold one, loads and stores; two compared; an argument that is one.
  No condition but those named.
-/
import Derived.Test.YtbcdmmhbmjjooaaRpMath
import Derived.Test.YtbcdmmhbmjjooaaExec
import Derived.Test.YtbcdmmhbmjjooaaLVal
import Derived.KernelRfl
set_option linter.unusedSimpArgs false
set_option linter.unusedVariables false
set_option maxRecDepth 100000
namespace Go.Proofs.Ytbcdmmhbmjjooaa
open Go.ChangeShapes Go.WideShapes Go.Deep Go.RowKit

/-- A reply's cells. -/
def rpA (p : Sto.Rp) : Array Value := #[.int .i64 p.e, .int .i64 p.v.k, .int .i64 p.v.n, .int .u64 (p.v.f : Int), .string p.v.s]
theorem info_rp : (Try.prog.info? 27).map (·.size) = some 5 := by kernel_rfl
section
variable {b0 : Nat} {w0 w : World} {L : List (Nat × TypeId × Array Value)} {R : List RowE} {ops : Array Oper} {rest : List Oper} {o : Oper} {a : Act} {Q : Exit → Act → World → Prop} {K : Act → World → Prop} {E : Prop} {g : Nat} {p q : Sto.Rp}
/-- A reply's block. -/
theorem wpList_arp (HK : Hid (Kn b0 w0 w L R)) (hgd : o.guard = none) (ho : o.op = .alloc 27)
    (h : ∀ w' g, Hid (Kn b0 w0 w' (L ++ [(g, 27, rpA Sto.rz)]) R) → wpList Try.prog ops Q rest (a.put o.dst (.pointer (some ⟨g, 0, none⟩))) w') : wpList Try.prog ops Q (o :: rest) a w :=
  wpList_plain hgd fun K hK => by
    have h4 := h _ w.heap.size (Lib.hid (HK.out.alloc _ _))
    unfold Oper.wp execOp
    simp only [ho]
    unfold rpA Sto.rz at h4
    go_simp
    exact hK _ _ h4
theorem kwp_srp (HK : Hid (Kn b0 w0 w L R)) (i : Nat) (r s : Operand) (ho : o.op = .store 27 r s) (hL : L[i]? = some (g, 27, rpA p)) (hx : a.eval r = .pointer (some ⟨g, 0, none⟩)) (hy : a.eval s = .agg (rpA q))
    (h : ∀ w', Hid (Kn b0 w0 w' (L.set i (g, 27, rpA q)) R) → K (a.put o.dst undef) w') : o.wp Try.prog a w K Q :=
  kwp_ss HK _ r s ho i hL hx hy (by show 5 ≤ 5; decide) info_rp (by simp [rpA, Value.oneCell']) fun w' h1 _ => h w' (by
    have e : putCells (rpA p) 0 (rpA q).toList = rpA q := by rw [putCells_all (vs := (rpA q).toList) (cs := rpA p) rfl, Array.toArray_toList]
    rw [e] at h1
    exact h1)
theorem wpList_srp (HK : Hid (Kn b0 w0 w L R)) (i : Nat) (hgd : o.guard = none) (r s : Operand) (ho : o.op = .store 27 r s) (hL : L[i]? = some (g, 27, rpA p)) (hx : a.eval r = .pointer (some ⟨g, 0, none⟩)) (hy : a.eval s = .agg (rpA q))
    (h : ∀ w', Hid (Kn b0 w0 w' (L.set i (g, 27, rpA q)) R) → wpList Try.prog ops Q rest (a.put o.dst undef) w') : wpList Try.prog ops Q (o :: rest) a w :=
  wpList_plain hgd fun _ hK => kwp_srp HK i r s ho hL hx hy fun w' h1 => hK _ _ (h w' h1)
theorem step_srp (HK : Hid (Kn b0 w0 w L R)) (i : Nat) (hgd : o.guard = none) (r s : Operand) (ho : o.op = .store 27 r s) (hL : L[i]? = some (g, 27, rpA p)) (hx : a.eval r = .pointer (some ⟨g, 0, none⟩)) (hy : a.eval s = .agg (rpA q))
    (h : ∀ w', Hid (Kn b0 w0 w' (L.set i (g, 27, rpA q)) R) → K (a.put o.dst undef) w') : if Region.wanted o (yielded ops a.tmps) = true then Oper.wp Try.prog o a w K Q else E := by
  rw [if_pos (by simp [Region.wanted, hgd])]
  exact kwp_srp HK i r s ho hL hx hy h
theorem krp (HK : Hid (Kn b0 w0 w L R)) (i : Nat) (r : Operand) (ho : o.op = .load 27 r) (hL : L[i]? = some (g, 27, rpA p)) (hx : a.eval r = .pointer (some ⟨g, 0, none⟩)) :
    (execOp a.eval o).run Try.prog w = .ok (.value (.agg (rpA p))) w :=
  kexec_ls HK _ r ho i hL hx (rpA p) (fun j _ => by rw [Nat.zero_add]) Try.underlying27 info_rp
theorem wpList_sre (HK : Hid (Kn b0 w0 w L R)) (i : Nat) (hgd : o.guard = none) (r s : Operand) (ho : o.op = .store 22 r s) (hL : L[i]? = some (g, 27, rpA p)) (hx : a.eval r = .pointer (some ⟨g, 0, none⟩)) {z : Int} (hy : a.eval s = .int .i64 z)
    (h : ∀ w', Hid (Kn b0 w0 w' (L.set i (g, 27, rpA ⟨z, p.v⟩)) R) → wpList Try.prog ops Q rest (a.put o.dst undef) w') : wpList Try.prog ops Q (o :: rest) a w :=
  wpList_sc HK i hgd _ r s ho hL hx hy rfl rfl (by show 0 < 5; decide) (by kernel_rfl) fun w' h1 _ => h w' h1
theorem wpList_srv (HK : Hid (Kn b0 w0 w L R)) (i : Nat) (hgd : o.guard = none) (r s : Operand) (ho : o.op = .store 25 r s) (hL : L[i]? = some (g, 27, rpA p)) (hx : a.eval r = .pointer (some ⟨g, 1, none⟩)) {z : Val.V} (hy : a.eval s = .agg #[.int .i64 z.k, .int .i64 z.n, .int .u64 (z.f : Int), .string z.s])
    (h : ∀ w', Hid (Kn b0 w0 w' (L.set i (g, 27, rpA ⟨p.e, z⟩)) R) → wpList Try.prog ops Q rest (a.put o.dst undef) w') : wpList Try.prog ops Q (o :: rest) a w :=
  wpList_ss HK i hgd _ r s ho hL hx hy (by show 1 + 4 ≤ 5; decide) info_v4 (by simp [Value.oneCell']) fun w' h1 _ => h w' (by
    have e : putCells (rpA p) 1 (#[Value.int .i64 z.k, .int .i64 z.n, .int .u64 (z.f : Int), .string z.s] : Array Value).toList = rpA ⟨p.e, z⟩ := rfl
    rw [e] at h1
    exact h1)
end
section
variable {w : World} {o : Oper} {a : Act} {p q : Sto.Rp}
theorem rpq_all (p q : Sto.Rp) : decide (p = q) = (decide (p.e = q.e) && (decide (p.v.k = q.v.k) && decide (p.v.n = q.v.n) && decide ((p.v.f : Int) = (q.v.f : Int)) && decide (p.v.s.toList = q.v.s.toList))) := by
  obtain ⟨e, v⟩ := p
  obtain ⟨e', v'⟩ := q
  rw [← veq_all]
  show _ = (decide (e = e') && decide (v = v'))
  by_cases h1 : e = e' <;> by_cases h2 : v = v' <;> simp [h1, h2]
theorem exec_rpe {b : Bool} (i j : Operand) (ho : o.op = .binOp .eql 27 i j 27) (hx : a.eval i = .agg (rpA p)) (hy : a.eval j = .agg (rpA q)) (hb : decide (p = q) = b) :
    (execOp a.eval o).run Try.prog w = .ok (.value (.bool b)) w := by
  rw [rpq_all] at hb
  subst hb
  unfold execOp
  simp only [ho, hx, hy]
  unfold rpA
  go_simp
  by_cases h0 : p.e = q.e <;> by_cases h1 : p.v.k = q.v.k <;> by_cases h2 : p.v.n = q.v.n <;> by_cases h3 : (p.v.f : Int) = (q.v.f : Int) <;> by_cases h4 : p.v.s.toList = q.v.s.toList <;> simp [h0, h1, h2, h3, h4]
theorem exec_rpn {b : Bool} (i j : Operand) (ho : o.op = .binOp .neq 27 i j 27) (hx : a.eval i = .agg (rpA p)) (hy : a.eval j = .agg (rpA q)) (hb : (!decide (p = q)) = b) :
    (execOp a.eval o).run Try.prog w = .ok (.value (.bool b)) w := by
  rw [rpq_all] at hb
  subst hb
  unfold execOp
  simp only [ho, hx, hy]
  unfold rpA
  go_simp
  by_cases h0 : p.e = q.e <;> by_cases h1 : p.v.k = q.v.k <;> by_cases h2 : p.v.n = q.v.n <;> by_cases h3 : (p.v.f : Int) = (q.v.f : Int) <;> by_cases h4 : p.v.s.toList = q.v.s.toList <;> simp [h0, h1, h2, h3, h4]
end
section
variable {H : Type} {enc : TypeId × Value → H} {W : World} {base : Nat}
theorem cells_rp : Try.prog.cellsOf 27 = 5 := by kernel_rfl
def rpL (p : Sto.Rp) : List Value := [.int .i64 p.e, .int .i64 p.v.k, .int .i64 p.v.n, .int .u64 (p.v.f : Int), .string p.v.s]
theorem opens_rp : OpensT enc 27 rpL (fun p => p.v.f < 18446744073709551616) := fun W n cs x ht => by
  obtain ⟨ys, m, _, hx, hlen, hyl, hf⟩ := DataW.trod_struct Try.underlying27 ht
  have hlen : cs.length = Try.prog.cellsOf 27 := hlen
  rw [cells_rp] at hlen
  match cs, hlen, ys, hyl with
  | [v0, v1, v2, v3, v4], _, [y0, y1], _ =>
    have f0 := hf 0 _ rfl
    have f1 := hf 1 _ rfl
    simp only [List.getElem?_cons_zero, List.getElem?_cons_succ] at f0 f1
    obtain ⟨a0, e0, _, _⟩ := DataW.trod_int Try.underlying22 f0
    obtain ⟨a1, e1, w1⟩ := opens_val (enc := enc) W _ _ _ f1
    cases e0; cases e1
    exact ⟨⟨a0, a1⟩, rfl, w1⟩
theorem Lift.Given.reply {ts : List TypeId} {args : List Value} {ds : List (DataW H)} {before : List MemPlace} (h : Lift.Given enc Try.prog (27 :: ts) W base args ds before) :
    ∃ (x : Sto.Rp) (vs : List Value) (d : DataW H) (ds' : List (DataW H)) (q : List MemPlace), args = .agg (rpL x).toArray :: vs ∧ ds = d :: ds' ∧ x.v.f < 18446744073709551616 ∧ Lift.Given enc Try.prog ts W base vs ds' q := h.one opens_rp Try.underlying27
end
end Go.Proofs.Ytbcdmmhbmjjooaa
