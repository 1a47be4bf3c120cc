/- How the calls of a row lie: a request, its command, whether its session ends; loads of each; an argument that is a slice of them. No condition but those named. -/
import Derived.Test.YtpkodjllljnleaaGreatMQ
import Derived.Test.YtpkodjllljnleaaGreatMH
import Derived.Test.YtpkodjllljnleaaGreatMF
import Derived.Test.YtpkodjllljnleaaGreatMO
set_option maxRecDepth 100000
set_option linter.unusedSimpArgs false
set_option linter.unusedVariables false
namespace Go.Proofs.YtpkodjllljnleaaGreat
open Go.ChangeShapes Go.WideShapes Go.Deep Go.RowKit
structure POp where
 r : Rf
 c : Cmd.C
 d : Bool
def popL (o : POp) : List Value := [.int .i64 o.r.c, .int .i64 o.r.e, .int .i64 o.r.r, .int .i64 o.c.k, .string o.c.name, .string o.c.key, .int .i64 o.c.val.k, .int .i64 o.c.val.n, .int .u64 (o.c.val.f : Int), .string o.c.val.s, .int .i64 o.c.old.k, .int .i64 o.c.old.n, .int .u64 (o.c.old.f : Int), .string o.c.old.s, .int .i64 o.c.n, .int .i64 o.c.m, .bool o.d]
def popA (o : POp) : Array Value := #[.int .i64 o.r.c, .int .i64 o.r.e, .int .i64 o.r.r, .int .i64 o.c.k, .string o.c.name, .string o.c.key, .int .i64 o.c.val.k, .int .i64 o.c.val.n, .int .u64 (o.c.val.f : Int), .string o.c.val.s, .int .i64 o.c.old.k, .int .i64 o.c.old.n, .int .u64 (o.c.old.f : Int), .string o.c.old.s, .int .i64 o.c.n, .int .i64 o.c.m, .bool o.d]
def popZ : POp := ⟨⟨0, 0, 0⟩, ⟨0, ⟨#[]⟩, ⟨#[]⟩, ⟨0, 0, 0, ⟨#[]⟩⟩, ⟨0, 0, 0, ⟨#[]⟩⟩, 0, 0⟩, false⟩
theorem info_pop : (Tryz.prog.info? 46).map (fun i => (i.zero, i.size, i.bytes)) = some (some (Value.agg (popA popZ)), 17, 168) := by kernel_rfl
def popLay : Lay Tryz.prog POp where
 t := 44
 e := 46
 k := 17
 bytes := 168
 z := .agg (popA popZ)
 f := popL
 len := fun _ => rfl
 one := fun x u hu => by
  unfold popL at hu
  simp only [List.mem_cons, List.not_mem_nil, or_false] at hu
  rcases hu with rfl | rfl | rfl | rfl | rfl | rfl | rfl | rfl | rfl | rfl | rfl | rfl | rfl | rfl | rfl | rfl | rfl <;> rfl
 und := Tryz.underlying44
 info := info_pop
 zs := rfl
 pos := by decide
 small := by decide
def pF (o : POp) : Prop := o.c.val.f < 18446744073709551616 ∧ o.c.old.f < 18446744073709551616
section
variable {b0 : Nat} {w0 w : World} {L : List (Nat × TypeId × Array Value)} {R : List RowE} {o : Oper} {a : Act} {g : Nat} {x : POp} {ops : Array Oper} {rest : List Oper} {Q : Exit → Act → World → Prop}
theorem exec_ixp {b off n c i : Nat} (q r : Operand) (ho : o.op = .indexAddr 44 q r) (hx : a.eval q = .slice (some ⟨b, off, none⟩) n c) (hq : a.eval r = .int .i64 (i : Int)) (h : i < n) :
  (execOp a.eval o).run Tryz.prog w = .ok (.value (.pointer (some ⟨b, off + i * 17, none⟩))) w := exec_slx popLay q r ho hx hq h
theorem exec_lop {b off : Nat} (p : Operand) (ho : o.op = .load 46 p) (hx : a.eval p = .pointer (some ⟨b, off, none⟩)) (hc : ∀ j v, (popL x)[j]? = some v → w.cell? ⟨b, off + j, none⟩ = some v) :
  (execOp a.eval o).run Tryz.prog w = .ok (.value (.agg (popA x))) w := exec_slv popLay (x := x) p ho hx Tryz.underlying46 hc
theorem wpList_apop (HK : Hid (Kn b0 w0 w L R)) (hgd : o.guard = none) (ho : o.op = .alloc 46)
  (h : ∀ w' g, Hid (Kn b0 w0 w' (L ++ [(g, 46, popA popZ)]) R) → wpList Tryz.prog ops Q rest (a.put o.dst (.pointer (some ⟨g, 0, none⟩))) w') : wpList Tryz.prog ops Q (o :: rest) a w := wpList_ak popLay HK hgd ho h
theorem wpList_spop {y : POp} (HK : Hid (Kn b0 w0 w L R)) (i : Nat) (hgd : o.guard = none) (p q : Operand) (ho : o.op = .store 46 p q) (hL : L[i]? = some (g, 46, popA x)) (hx : a.eval p = .pointer (some ⟨g, 0, none⟩)) (hy : a.eval q = .agg (popA y))
  (h : ∀ w', Hid (Kn b0 w0 w' (L.set i (g, 46, popA y)) R) → wpList Tryz.prog ops Q rest (a.put o.dst undef) w') : wpList Tryz.prog ops Q (o :: rest) a w := wpList_st popLay (p2 := y) HK i hgd p q ho hL rfl hx hy h
theorem kpop_d (HK : Hid (Kn b0 w0 w L R)) (i : Nat) (p : Operand) (ho : o.op = .load 4 p) (hL : L[i]? = some (g, 46, popA x)) (hx : a.eval p = .pointer (some ⟨g, 16, none⟩)) :
  (execOp a.eval o).run Tryz.prog w = .ok (.value (.bool x.d)) w := kexec_lc HK _ p ho i hL hx rfl Tryz.underlying4 rfl
theorem kpop_r (HK : Hid (Kn b0 w0 w L R)) (i : Nat) (p : Operand) (ho : o.op = .load 24 p) (hL : L[i]? = some (g, 46, popA x)) (hx : a.eval p = .pointer (some ⟨g, 0, none⟩)) :
  (execOp a.eval o).run Tryz.prog w = .ok (.value (.agg #[.int .i64 x.r.c, .int .i64 x.r.e, .int .i64 x.r.r])) w :=
 kexec_ls HK _ p ho i hL hx #[.int .i64 x.r.c, .int .i64 x.r.e, .int .i64 x.r.r] (fun j hj => by
  match j, hj with
  | 0, _ | 1, _ | 2, _ => rfl) Tryz.underlying24 (by kernel_rfl)
theorem kpop_c (HK : Hid (Kn b0 w0 w L R)) (i : Nat) (p : Operand) (ho : o.op = .load 29 p) (hL : L[i]? = some (g, 46, popA x)) (hx : a.eval p = .pointer (some ⟨g, 3, none⟩)) :
  (execOp a.eval o).run Tryz.prog w = .ok (.value (.agg (cmA x.c))) w :=
 kexec_ls HK _ p ho i hL hx (cmA x.c) (fun j hj => by
  have hj : j < 13 := hj
  match j, hj with
  | 0, _ | 1, _ | 2, _ | 3, _ | 4, _ | 5, _ | 6, _ | 7, _ | 8, _ | 9, _ | 10, _ | 11, _ | 12, _ => rfl) Tryz.underlying29 info_cm
end
section
variable {H : Type} {enc : TypeId × Value → H} {W : World} {base : Nat}
theorem cells_pop : Tryz.prog.cellsOf 46 = 17 := by kernel_rfl
theorem bytes_pop : Tryz.prog.bytesOf 46 = 168 := by kernel_rfl
theorem opens_pop : Opens enc popLay (fun o _ => pF o) := fun W n cs x ht => by
 obtain ⟨ys, m, _, hx, hlen, hyl, hf⟩ := DataW.trod_struct Tryz.underlying46 ht
 have hlen : cs.length = Tryz.prog.cellsOf 46 := hlen
 rw [cells_pop] at hlen
 match cs, hlen, ys, hyl with
 | [v0, v1, v2, v3, v4, v5, v6, v7, v8, v9, v10, v11, v12, v13, v14, v15, v16], _, [y0, y1, y2], _ =>
  have f0 := hf 0 _ rfl
  have f1 := hf 1 _ rfl
  have f2 := hf 2 _ rfl
  simp only [List.getElem?_cons_zero, List.getElem?_cons_succ] at f0 f1 f2
  obtain ⟨a0, e0, _⟩ := opens_rf (enc := enc) W _ _ _ f0
  obtain ⟨a1, e1, w1⟩ := opens_cmd (enc := enc) W _ _ _ f1
  obtain ⟨a2, e2, _⟩ := DataW.trod_bool Tryz.underlying4 f2
  cases e0
  cases e1
  cases e2
  exact ⟨⟨a0, a1, a2⟩, rfl, w1⟩
theorem Lift.Given.pops {ts : List TypeId} {args : List Value} {ds : List (DataW H)} {before : List MemPlace} (h : Lift.Given enc Tryz.prog (44 :: ts) W base args ds before) :
  ∃ (A : Option Addr) (c : Nat) (l : List POp) (vs : List Value) (d : DataW H) (ds' : List (DataW H)) (q : List MemPlace), args = .slice A l.length c :: vs ∧ ds = d :: ds' ∧ Sls popLay pF W A l.length c l ∧ Lift.Given enc Tryz.prog ts W base vs ds' q := by
 obtain ⟨A, c, l, vs, d, ds', q, h1, h2, h3, h4, h5, h6, _, h8, h9⟩ := h.things (L := popLay) opens_pop cells_pop bytes_pop
 have hb : l.length * 168 ≤ reachBytes := h6
 refine ⟨A, c, l, vs, d, ds', q, h1, h2, ⟨rfl, h8, h3, h4, fun x hx => ?_, ?_⟩, h9⟩
 ·obtain ⟨_, g⟩ := h5 x hx
  exact g.1
 ·have : reachBytes = 140737488351232 := rfl
  show l.length * 168 ≤ _
  omega
end
end Go.Proofs.YtpkodjllljnleaaGreat
