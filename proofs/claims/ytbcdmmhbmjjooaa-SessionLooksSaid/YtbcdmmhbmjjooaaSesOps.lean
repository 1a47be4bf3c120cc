/-
  How the calls of a row lie: a request, whether it is an end, a close, its reply; loads of each; an argument that is a slice of them; a table, a reply, a request handed in.
  No condition but the form's own.
-/
import Derived.Test.YtbcdmmhbmjjooaaSesLay
import Derived.OpenShut
set_option linter.unusedSimpArgs false
set_option linter.unusedVariables false
set_option maxRecDepth 100000
namespace Go.Proofs.Ytbcdmmhbmjjooaa
open Go.ChangeShapes Go.WideShapes Go.Deep Go.RowKit

/-- A call of a row. -/
structure SOp where
  r : Rf
  e : Bool
  c : Bool
  p : Sto.Rp
def sopL (o : SOp) : List Value := [.int .i64 o.r.c, .int .i64 o.r.e, .int .i64 o.r.r, .bool o.e, .bool o.c, .int .i64 o.p.e, .int .i64 o.p.v.k, .int .i64 o.p.v.n, .int .u64 (o.p.v.f : Int), .string o.p.v.s]
def sopZ : SOp := ⟨⟨0, 0, 0⟩, false, false, Sto.rz⟩
theorem info_sop : (Try.prog.info? 46).map (fun i => (i.zero, i.size, i.bytes)) = some (some (Value.agg (sopL sopZ).toArray), 10, 80) := by kernel_rfl
def sopLay : Lay Try.prog SOp where
  t := 43
  e := 46
  k := 10
  bytes := 80
  z := .agg (sopL sopZ).toArray
  f := sopL
  len := fun _ => rfl
  one := fun x u hu => by
    unfold sopL at hu
    simp only [List.mem_cons, List.not_mem_nil, or_false] at hu
    rcases hu with rfl | rfl | rfl | rfl | rfl | rfl | rfl | rfl | rfl | rfl <;> rfl
  und := Try.underlying43
  info := info_sop
  zs := rfl
  pos := by decide
  small := by decide
def sF (o : SOp) : Prop := o.r.r ≤ 9223372036854775807 ∧ o.p.v.f < 18446744073709551616
section
variable {w : World} {o : Oper} {a : Act} {x : SOp}
theorem exec_ixp {b off n c i : Nat} (q r : Operand) (ho : o.op = .indexAddr 43 q r) (hx : a.eval q = .slice (some ⟨b, off, none⟩) n c) (hq : a.eval r = .int .i64 (i : Int)) (h : i < n) :
    (execOp a.eval o).run Try.prog w = .ok (.value (.pointer (some ⟨b, off + i * 10, none⟩))) w := exec_slx sopLay q r ho hx hq h
theorem exec_opr {b off : Nat} (p : Operand) (ho : o.op = .load 32 p) (hx : a.eval p = .pointer (some ⟨b, off, none⟩)) (hc : ∀ j v, (sopL x)[j]? = some v → w.cell? ⟨b, off + j, none⟩ = some v) :
    (execOp a.eval o).run Try.prog w = .ok (.value (.agg #[.int .i64 x.r.c, .int .i64 x.r.e, .int .i64 x.r.r])) w :=
  exec_lr (x := x.r) p ho hx (fun j v hj => by
    match j, hj with
    | 0, hj => exact hc 0 v hj
    | 1, hj => exact hc 1 v hj
    | 2, hj => exact hc 2 v hj)
theorem exec_ope {b off : Nat} (p : Operand) (ho : o.op = .load 4 p) (hx : a.eval p = .pointer (some ⟨b, off + 3, none⟩)) (hc : ∀ j v, (sopL x)[j]? = some v → w.cell? ⟨b, off + j, none⟩ = some v) :
    (execOp a.eval o).run Try.prog w = .ok (.value (.bool x.e)) w := exec_cell p ho hx (hc 3 _ rfl) Try.underlying4 rfl
theorem exec_opc {b off : Nat} (p : Operand) (ho : o.op = .load 4 p) (hx : a.eval p = .pointer (some ⟨b, off + 4, none⟩)) (hc : ∀ j v, (sopL x)[j]? = some v → w.cell? ⟨b, off + j, none⟩ = some v) :
    (execOp a.eval o).run Try.prog w = .ok (.value (.bool x.c)) w := exec_cell p ho hx (hc 4 _ rfl) Try.underlying4 rfl
theorem exec_opp {b off : Nat} (p : Operand) (ho : o.op = .load 27 p) (hx : a.eval p = .pointer (some ⟨b, off + 5, none⟩)) (hc : ∀ j v, (sopL x)[j]? = some v → w.cell? ⟨b, off + j, none⟩ = some v) :
    (execOp a.eval o).run Try.prog w = .ok (.value (.agg (rpA x.p))) w := by
  have hr : w.rangeAt b (off + 5) (rpA x.p).toList := fun j v hj => by
    have h2 : (sopL x)[5 + j]? = some v := by
      rw [← hj]
      match j with
      | 0 => rfl
      | 1 => rfl
      | 2 => rfl
      | 3 => rfl
      | 4 => rfl
      | j + 5 =>
        rw [List.getElem?_eq_none (by show 10 ≤ 5 + (j + 5); omega), List.getElem?_eq_none (by show 5 ≤ j + 5; omega)]
    rw [Nat.add_assoc]
    exact hc (5 + j) v h2
  have h := run_loadVar_mid (P := Try.prog) w b (off + 5) _ (rpA x.p).toList _ hr Try.underlying27 rfl info_rp
  unfold execOp
  simp only [ho, hx, Instr.loadAt, Instr.sureAddr, Sem.run_bind, Sem.run_pure, Result.andThen_ok, h, Array.toArray_toList]
end
section
variable {H : Type} {enc : TypeId × Value → H} {W : World} {base : Nat}
theorem cells_sop : Try.prog.cellsOf 46 = 10 := by kernel_rfl
theorem bytes_sop : Try.prog.bytesOf 46 = 80 := by kernel_rfl
/-- A request, its number within the machine's. -/
theorem opens_rfb : OpensT enc 32 rfL (fun x => x.r ≤ 9223372036854775807) := fun W n cs x ht => by
  obtain ⟨ys, m, _, hx, hlen, hyl, hf⟩ := DataW.trod_struct Try.underlying32 ht
  have hlen : cs.length = Try.prog.cellsOf 32 := hlen
  rw [cells_rf] at hlen
  match cs, hlen, ys, hyl with
  | [v0, v1, v2], _, [y0, y1, y2], _ =>
    have f0 := hf 0 _ rfl
    have f1 := hf 1 _ rfl
    have f2 := hf 2 _ rfl
    simp only [List.getElem?_cons_zero, List.getElem?_cons_succ] at f0 f1 f2
    obtain ⟨a0, e0, _, _⟩ := DataW.trod_int Try.underlying3 f0
    obtain ⟨a1, e1, _, _⟩ := DataW.trod_int Try.underlying3 f1
    obtain ⟨a2, e2, _, w2⟩ := DataW.trod_int Try.underlying3 f2
    cases e0; cases e1; cases e2
    exact ⟨⟨a0, a1, a2⟩, rfl, by have := bounds_i64 w2; show a2 ≤ _; omega⟩
theorem Lift.Given.rfb {ts : List TypeId} {args : List Value} {ds : List (DataW H)} {before : List MemPlace} (h : Lift.Given enc Try.prog (32 :: ts) W base args ds before) :
    ∃ (x : Rf) (vs : List Value) (d : DataW H) (ds' : List (DataW H)) (q : List MemPlace), args = .agg (rfL x).toArray :: vs ∧ ds = d :: ds' ∧ x.r ≤ 9223372036854775807 ∧ Lift.Given enc Try.prog ts W base vs ds' q := h.one opens_rfb Try.underlying32
theorem opens_sop : Opens enc sopLay (fun o _ => sF o) := fun W n cs x ht => by
  obtain ⟨ys, m, _, hx, hlen, hyl, hf⟩ := DataW.trod_struct Try.underlying46 ht
  have hlen : cs.length = Try.prog.cellsOf 46 := hlen
  rw [cells_sop] at hlen
  match cs, hlen, ys, hyl with
  | [v0, v1, v2, v3, v4, v5, v6, v7, v8, v9], _, [y0, y1, y2, y3], _ =>
    have f0 := hf 0 _ rfl
    have f1 := hf 1 _ rfl
    have f2 := hf 2 _ rfl
    have f3 := hf 3 _ rfl
    simp only [List.getElem?_cons_zero, List.getElem?_cons_succ] at f0 f1 f2 f3
    obtain ⟨a0, e0, w0⟩ := opens_rfb (enc := enc) W _ _ _ f0
    obtain ⟨a1, e1, _⟩ := DataW.trod_bool Try.underlying4 f1
    obtain ⟨a2, e2, _⟩ := DataW.trod_bool Try.underlying4 f2
    obtain ⟨a3, e3, w3⟩ := opens_rp (enc := enc) W _ _ _ f3
    cases e0
    cases e1
    cases e2
    cases e3
    exact ⟨⟨a0, a1, a2, a3⟩, rfl, w0, w3⟩
theorem Lift.Given.sops {ts : List TypeId} {args : List Value} {ds : List (DataW H)} {before : List MemPlace} (h : Lift.Given enc Try.prog (43 :: ts) W base args ds before) :
    ∃ (A : Option Addr) (c : Nat) (l : List SOp) (vs : List Value) (d : DataW H) (ds' : List (DataW H)) (q : List MemPlace), args = .slice A l.length c :: vs ∧ ds = d :: ds' ∧ Sls sopLay sF W A l.length c l ∧ Lift.Given enc Try.prog ts W base vs ds' q := by
  obtain ⟨A, c, l, vs, d, ds', q, h1, h2, h3, h4, h5, h6, _, h8, h9⟩ := h.things (L := sopLay) opens_sop cells_sop bytes_sop
  have hb : l.length * 80 ≤ reachBytes := h6
  refine ⟨A, c, l, vs, d, ds', q, h1, h2, ⟨rfl, h8, h3, h4, fun x hx => ?_, ?_⟩, h9⟩
  · obtain ⟨_, g⟩ := h5 x hx
    exact g.1
  · have : reachBytes = 140737488351232 := rfl
    show l.length * 80 ≤ _
    omega
theorem okWide_arr {P : Program} {w : World} {r : Reach} {b n : Nat} {t e : TypeId} {v : Value} (ht : P.underlying t = some (.array n e)) (h : Value.okWide P w r b t v) : ∃ cs, v = .agg cs ∧ cs.size = P.cellsOf t := by
  simp only [Value.okWide, ht] at h
  obtain ⟨cs, h1, h2, _⟩ := h
  exact ⟨cs, h1, h2⟩
/-- A session, a table of five. -/
def seL (s : Ses.S) : List Value := [.bool s.live, .int .i64 s.ep, .int .i64 s.rq, .bool s.dn, .int .i64 s.p.e, .int .i64 s.p.v.k, .int .i64 s.p.v.n, .int .u64 (s.p.v.f : Int), .string s.p.v.s]
theorem cells_ses : Try.prog.cellsOf 29 = 9 := by kernel_rfl
theorem cells_tab : Try.prog.cellsOf 30 = 45 := by kernel_rfl
theorem opens_se : OpensT enc 29 seL (fun s => s.p.v.f < 18446744073709551616) := fun W n cs x ht => by
  obtain ⟨ys, m, _, hx, hlen, hyl, hf⟩ := DataW.trod_struct Try.underlying29 ht
  have hlen : cs.length = Try.prog.cellsOf 29 := hlen
  rw [cells_ses] at hlen
  match cs, hlen, ys, hyl with
  | [v0, v1, v2, v3, v4, v5, v6, v7, v8], _, [y0, y1, y2, y3, y4], _ =>
    have f0 := hf 0 _ rfl
    have f1 := hf 1 _ rfl
    have f2 := hf 2 _ rfl
    have f3 := hf 3 _ rfl
    have f4 := hf 4 _ rfl
    simp only [List.getElem?_cons_zero, List.getElem?_cons_succ] at f0 f1 f2 f3 f4
    obtain ⟨a0, e0, _⟩ := DataW.trod_bool Try.underlying4 f0
    obtain ⟨a1, e1, _, _⟩ := DataW.trod_int Try.underlying3 f1
    obtain ⟨a2, e2, _, _⟩ := DataW.trod_int Try.underlying3 f2
    obtain ⟨a3, e3, _⟩ := DataW.trod_bool Try.underlying4 f3
    obtain ⟨a4, e4, w4⟩ := opens_rp (enc := enc) W _ _ _ f4
    cases e0; cases e1; cases e2; cases e3; cases e4
    exact ⟨⟨a0, a1, a2, a3, a4⟩, rfl, w4⟩
theorem nine_of {l : List Value} (h : l.length = 45) (f : Nat → Ses.S) (hf : ∀ i, i < 5 → (l.drop (i * 9)).take 9 = seL (f i)) : l = seL (f 0) ++ (seL (f 1) ++ (seL (f 2) ++ (seL (f 3) ++ seL (f 4)))) := by
  have cut : ∀ k, (l.drop k).take 9 ++ l.drop (k + 9) = l.drop k := fun k => by
    rw [← List.drop_drop]
    exact List.take_append_drop 9 (l.drop k)
  have last : (l.drop 36).take 9 = l.drop 36 := List.take_of_length_le (by rw [List.length_drop]; omega)
  rw [← hf 0 (by decide), ← hf 1 (by decide), ← hf 2 (by decide), ← hf 3 (by decide), ← hf 4 (by decide)]
  have c0 := cut 0
  have c1 := cut 9
  have c2 := cut 18
  have c3 := cut 27
  simp only [Nat.reduceMul, Nat.reduceAdd, Nat.zero_mul, Nat.zero_add] at c0 c1 c2 c3 ⊢
  rw [last, c3, c2, c1, c0]
  rfl
theorem Lift.Given.table {ts : List TypeId} {args : List Value} {ds : List (DataW H)} {before : List MemPlace} (h : Lift.Given enc Try.prog (30 :: ts) W base args ds before) :
    ∃ (t : Ses.T) (vs : List Value) (d : DataW H) (ds' : List (DataW H)) (q : List MemPlace), args = .agg (tbA t) :: vs ∧ ds = d :: ds' ∧ Ses.Fit t ∧ Lift.Given enc Try.prog ts W base vs ds' q := by
  obtain ⟨v, vs, d, ds', p, q, rfl, rfl, rfl, h0, hok, _, hw, hg⟩ := h.cons
  obtain ⟨fuel, h0⟩ := h0
  obtain ⟨cs, rfl, hsz⟩ := okWide_arr Try.underlying30 hok
  have hcl : (Value.agg cs).cells.toList = cs.toList := by simp [Value.cells]
  rw [hcl] at h0
  obtain ⟨xs, m, _, hx, hlen, hxl, hel⟩ := DataW.trod_array Try.underlying30 h0
  rw [cells_tab] at hlen
  rw [cells_ses] at hel
  have hall : ∀ i, i < 5 → ∃ s : Ses.S, (cs.toList.drop (i * 9)).take 9 = seL s ∧ s.p.v.f < 18446744073709551616 := fun i hi => by
    have h1 := hel i hi
    rw [List.getElem?_eq_getElem (by omega)] at h1
    obtain ⟨s, e, g⟩ := opens_se (enc := enc) W _ _ _ h1
    exact ⟨s, e, g⟩
  have : Inhabited Ses.S := ⟨Ses.z⟩
  obtain ⟨f, hf⟩ := choose_lt hall
  refine ⟨⟨f 0, f 1, f 2, f 3, f 4⟩, vs, d, ds', q, ?_, rfl, ?_, hg⟩
  · have e := nine_of hlen f (fun i hi => (hf i hi).1)
    have e2 : cs = tbA ⟨f 0, f 1, f 2, f 3, f 4⟩ := Array.toList_inj.1 (e.trans rfl)
    rw [e2]
  · intro c hc
    rcases Ses.cases5 hc with rfl | rfl | rfl | rfl | rfl
    · exact (hf 0 (by decide)).2
    · exact (hf 1 (by decide)).2
    · exact (hf 2 (by decide)).2
    · exact (hf 3 (by decide)).2
    · exact (hf 4 (by decide)).2
end
end Go.Proofs.Ytbcdmmhbmjjooaa
