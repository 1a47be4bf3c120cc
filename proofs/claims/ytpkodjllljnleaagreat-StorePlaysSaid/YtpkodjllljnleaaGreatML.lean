/- How objects lie: their own cells and the slices that they hold; loads and stores of them and of their fields, blocks that hold one, an outcome's block; ways out. No condition but those named. -/
import Derived.Test.YtpkodjllljnleaaGreatTk
import Derived.Test.YtpkodjllljnleaaGreatMB
import Derived.Test.YtpkodjllljnleaaGreatME
import Derived.Test.YtpkodjllljnleaaGreatMF
import Derived.Test.YtpkodjllljnleaaGreatMG
import Derived.KernelRfl
import Derived.Lib.AppendZeros
set_option maxRecDepth 100000
set_option linter.unusedSimpArgs false
set_option linter.unusedVariables false
namespace Go.Proofs.YtpkodjllljnleaaGreat
open Go.RowKit
structure Oh where
 v : Sto.Ob
 pA : Option Addr
 pn : Nat
 pc : Nat
 vA : Option Addr
 vn : Nat
 vc : Nat
 rA : Option Addr
 rn : Nat
 rc : Nat
def obL (x : Oh) : List Value := [.string x.v.name, .int .i64 x.v.kind, .int .i64 x.v.cap, .slice x.pA x.pn x.pc, .slice x.vA x.vn x.vc, .slice x.rA x.rn x.rc, .int .i64 x.v.round, .int .i64 x.v.mt.n, .int .u64 (x.v.mt.s : Int), .int .u64 (x.v.mt.l : Int), .int .u64 (x.v.mt.m : Int)]
def obA (x : Oh) : Array Value := #[.string x.v.name, .int .i64 x.v.kind, .int .i64 x.v.cap, .slice x.pA x.pn x.pc, .slice x.vA x.vn x.vc, .slice x.rA x.rn x.rc, .int .i64 x.v.round, .int .i64 x.v.mt.n, .int .u64 (x.v.mt.s : Int), .int .u64 (x.v.mt.l : Int), .int .u64 (x.v.mt.m : Int)]
def ohZ : Oh := ⟨⟨⟨#[]⟩, 0, 0, [], [], [], 0, Mt.zero⟩, none, 0, 0, none, 0, 0, none, 0, 0⟩
theorem info_obl : (Tryz.prog.info? 55).map (fun i => (i.zero, i.size, i.bytes)) = some (some (Value.agg (obA ohZ)), 11, 144) := by kernel_rfl
theorem info_ob : (Tryz.prog.info? 55).map (·.size) = some 11 := by kernel_rfl
def obLay : Lay Tryz.prog Oh where
 t := 22
 e := 55
 k := 11
 bytes := 144
 z := .agg (obA ohZ)
 f := obL
 len := fun _ => rfl
 one := fun x u hu => by
  unfold obL at hu
  simp only [List.mem_cons, List.not_mem_nil, or_false] at hu
  rcases hu with rfl | rfl | rfl | rfl | rfl | rfl | rfl | rfl | rfl | rfl | rfl <;> rfl
 und := Tryz.underlying22
 info := info_obl
 zs := rfl
 pos := by decide
 small := by decide
theorem info_obs : (Tryz.prog.info? 22).map (fun i => (i.zero, i.size)) = some (some (Value.slice none 0 0), 1) := by kernel_rfl
def obNest : Nest obLay where
 tt := 89
 und := Tryz.underlying89
 info := info_obs
def oF (_ : Oh) : Prop := True
structure In (w : World) (x : Oh) : Prop where
 p : Sl w x.pA x.pn x.pc x.v.prs
 v : Sls vaLay vF w x.vA x.vn x.vc x.v.vals
 r : Sls rfLay rF w x.rA x.rn x.rc x.v.refs
 m : Mt.Fit x.v.mt
 d : x.v.round ≤ 9223372036854775807
theorem In.later {w w' : World} {x : Oh} (h : In w x) (hb : Below w.heap.size w w') : In w' x := ⟨h.p.later hb, h.v.later hb, h.r.later hb, h.m, h.d⟩
structure Obs (w : World) (A : Option Addr) (n c : Nat) (l : List Oh) : Prop where
 s : Sls obLay oF w A n c l
 i : ∀ x ∈ l, In w x
def vs (l : List Oh) : List Sto.Ob := l.map (·.v)
theorem vs_len (l : List Oh) : (vs l).length = l.length := List.length_map ..
theorem vs_get {l : List Oh} {i : Nat} {x : Oh} (h : l[i]? = some x) : (vs l)[i]? = some x.v := by
 unfold vs
 rw [List.getElem?_map, h]; rfl
theorem Obs.later {w w' : World} {A : Option Addr} {n c : Nat} {l : List Oh} (h : Obs w A n c l) (hb : Below w.heap.size w w') : Obs w' A n c l := ⟨h.s.later hb, fun x hx => (h.i x hx).later hb⟩
theorem Obs.none (w : World) : Obs w none 0 0 [] := ⟨Sls.none w, fun x hx => by simp at hx⟩
theorem Obs.len {w : World} {A : Option Addr} {n c : Nat} {l : List Oh} (h : Obs w A n c l) : l.length = n := h.s.len
theorem Obs.take {w : World} {A : Option Addr} {n c : Nat} {l : List Oh} (h : Obs w A n c l) {hi : Nat} (h2 : hi ≤ n) : Obs w A hi c (l.take hi) := ⟨h.s.take h2, fun x hx => h.i x (List.mem_of_mem_take hx)⟩
theorem Obs.drop {w : World} {A : Option Addr} {n c : Nat} {l : List Oh} (h : Obs w A n c l) {lo : Nat} (h2 : lo ≤ n) : Obs w (subA 11 A lo c) (n - lo) (c - lo) (l.drop lo) := ⟨h.s.drop h2, fun x hx => h.i x (List.mem_of_mem_drop hx)⟩
theorem Obs.sub {w : World} {A : Option Addr} {n c : Nat} {l : List Oh} (h : Obs w A n c l) {lo hi : Nat} (h1 : lo ≤ hi) (h2 : hi ≤ n) : Obs w (subA 11 A lo c) (hi - lo) (c - lo) ((l.drop lo).take (hi - lo)) := ⟨h.s.sub h1 h2, fun x hx => h.i x (List.mem_of_mem_drop (List.mem_of_mem_take hx))⟩
theorem Obs.get {w : World} {A : Option Addr} {n c : Nat} {l : List Oh} (h : Obs w A n c l) {k : Nat} (hk : k < n) : ∃ x, l[k]? = some x ∧ In w x := by
 obtain ⟨x, hx, _⟩ := h.s.get hk
 exact ⟨x, hx, h.i x (List.mem_of_getElem? hx)⟩
def Oh.sp (x : Oh) (A : Option Addr) (n c : Nat) (l : List Dct.Pr) : Oh := ⟨{ x.v with prs := l }, A, n, c, x.vA, x.vn, x.vc, x.rA, x.rn, x.rc⟩
def Oh.sv (x : Oh) (A : Option Addr) (n c : Nat) (l : List Val.V) : Oh := ⟨{ x.v with vals := l }, x.pA, x.pn, x.pc, A, n, c, x.rA, x.rn, x.rc⟩
def Oh.sr (x : Oh) (A : Option Addr) (n c : Nat) (l : List Rf) : Oh := ⟨{ x.v with refs := l }, x.pA, x.pn, x.pc, x.vA, x.vn, x.vc, A, n, c⟩
def Oh.sd (x : Oh) (d : Int) : Oh := ⟨{ x.v with round := d }, x.pA, x.pn, x.pc, x.vA, x.vn, x.vc, x.rA, x.rn, x.rc⟩
def Oh.sm (x : Oh) (m : Mtr) : Oh := ⟨{ x.v with mt := m }, x.pA, x.pn, x.pc, x.vA, x.vn, x.vc, x.rA, x.rn, x.rc⟩
section
variable {w : World} {x : Oh} {A : Option Addr} {n c : Nat}
theorem In.sp (h : In w x) {l : List Dct.Pr} (hs : Sl w A n c l) : In w (x.sp A n c l) := ⟨hs, h.v, h.r, h.m, h.d⟩
theorem In.sv (h : In w x) {l : List Val.V} (hs : Sls vaLay vF w A n c l) : In w (x.sv A n c l) := ⟨h.p, hs, h.r, h.m, h.d⟩
theorem In.sr (h : In w x) {l : List Rf} (hs : Sls rfLay rF w A n c l) : In w (x.sr A n c l) := ⟨h.p, h.v, hs, h.m, h.d⟩
theorem In.sd (h : In w x) {d : Int} (hd : d ≤ 9223372036854775807) : In w (x.sd d) := ⟨h.p, h.v, h.r, h.m, hd⟩
theorem In.sm (h : In w x) {m : Mtr} (hm : Mt.Fit m) : In w (x.sm m) := ⟨h.p, h.v, h.r, hm, h.d⟩
end
theorem info_pr1 : (Tryz.prog.info? 49).map (·.size) = some 1 := by kernel_rfl
theorem info_va1 : (Tryz.prog.info? 50).map (·.size) = some 1 := by kernel_rfl
theorem info_rf1 : (Tryz.prog.info? 51).map (·.size) = some 1 := by kernel_rfl
section
variable {b0 : Nat} {w0 w : World} {L : List (Nat × TypeId × Array Value)} {R : List RowE} {ops : Array Oper} {rest : List Oper} {o : Oper} {a : Act} {Q : Exit → Act → World → Prop} {K : Act → World → Prop} {E : Prop} {g : Nat} {x y : Oh}
theorem kob (HK : Hid (Kn b0 w0 w L R)) (i : Nat) (p : Operand) (ho : o.op = .load 55 p) (hL : L[i]? = some (g, 55, obA x)) (hx : a.eval p = .pointer (some ⟨g, 0, none⟩)) :
  (execOp a.eval o).run Tryz.prog w = .ok (.value (.agg (obA x))) w :=
 kexec_ls HK _ p ho i hL hx (obA x) (fun j _ => by rw [Nat.zero_add]) Tryz.underlying55 info_ob
theorem kob_n (HK : Hid (Kn b0 w0 w L R)) (i : Nat) (p : Operand) (ho : o.op = .load 9 p) (hL : L[i]? = some (g, 55, obA x)) (hx : a.eval p = .pointer (some ⟨g, 0, none⟩)) :
  (execOp a.eval o).run Tryz.prog w = .ok (.value (.string x.v.name)) w := kexec_lc HK _ p ho i hL hx rfl Tryz.underlying9 rfl
theorem kob_k (HK : Hid (Kn b0 w0 w L R)) (i : Nat) (p : Operand) (ho : o.op = .load 3 p) (hL : L[i]? = some (g, 55, obA x)) (hx : a.eval p = .pointer (some ⟨g, 1, none⟩)) :
  (execOp a.eval o).run Tryz.prog w = .ok (.value (.int .i64 x.v.kind)) w := kexec_lc HK _ p ho i hL hx rfl Tryz.underlying3 rfl
theorem kob_c (HK : Hid (Kn b0 w0 w L R)) (i : Nat) (p : Operand) (ho : o.op = .load 3 p) (hL : L[i]? = some (g, 55, obA x)) (hx : a.eval p = .pointer (some ⟨g, 2, none⟩)) :
  (execOp a.eval o).run Tryz.prog w = .ok (.value (.int .i64 x.v.cap)) w := kexec_lc HK _ p ho i hL hx rfl Tryz.underlying3 rfl
theorem kob_p (HK : Hid (Kn b0 w0 w L R)) (i : Nat) (p : Operand) (ho : o.op = .load 49 p) (hL : L[i]? = some (g, 55, obA x)) (hx : a.eval p = .pointer (some ⟨g, 3, none⟩)) :
  (execOp a.eval o).run Tryz.prog w = .ok (.value (.slice x.pA x.pn x.pc)) w := kexec_lc HK _ p ho i hL hx rfl Tryz.underlying49 rfl
theorem kob_v (HK : Hid (Kn b0 w0 w L R)) (i : Nat) (p : Operand) (ho : o.op = .load 50 p) (hL : L[i]? = some (g, 55, obA x)) (hx : a.eval p = .pointer (some ⟨g, 4, none⟩)) :
  (execOp a.eval o).run Tryz.prog w = .ok (.value (.slice x.vA x.vn x.vc)) w := kexec_lc HK _ p ho i hL hx rfl Tryz.underlying50 rfl
theorem kob_r (HK : Hid (Kn b0 w0 w L R)) (i : Nat) (p : Operand) (ho : o.op = .load 51 p) (hL : L[i]? = some (g, 55, obA x)) (hx : a.eval p = .pointer (some ⟨g, 5, none⟩)) :
  (execOp a.eval o).run Tryz.prog w = .ok (.value (.slice x.rA x.rn x.rc)) w := kexec_lc HK _ p ho i hL hx rfl Tryz.underlying51 rfl
theorem kob_d (HK : Hid (Kn b0 w0 w L R)) (i : Nat) (p : Operand) (ho : o.op = .load 3 p) (hL : L[i]? = some (g, 55, obA x)) (hx : a.eval p = .pointer (some ⟨g, 6, none⟩)) :
  (execOp a.eval o).run Tryz.prog w = .ok (.value (.int .i64 x.v.round)) w := kexec_lc HK _ p ho i hL hx rfl Tryz.underlying3 rfl
theorem kob_mn (HK : Hid (Kn b0 w0 w L R)) (i : Nat) (p : Operand) (ho : o.op = .load 3 p) (hL : L[i]? = some (g, 55, obA x)) (hx : a.eval p = .pointer (some ⟨g, 7, none⟩)) :
  (execOp a.eval o).run Tryz.prog w = .ok (.value (.int .i64 x.v.mt.n)) w := kexec_lc HK _ p ho i hL hx rfl Tryz.underlying3 rfl
theorem kob_m (HK : Hid (Kn b0 w0 w L R)) (i : Nat) (p : Operand) (ho : o.op = .load 53 p) (hL : L[i]? = some (g, 55, obA x)) (hx : a.eval p = .pointer (some ⟨g, 7, none⟩)) :
  (execOp a.eval o).run Tryz.prog w = .ok (.value (.agg #[.int .i64 x.v.mt.n, .int .u64 (x.v.mt.s : Int), .int .u64 (x.v.mt.l : Int), .int .u64 (x.v.mt.m : Int)])) w :=
 kexec_ls HK _ p ho i hL hx #[.int .i64 x.v.mt.n, .int .u64 (x.v.mt.s : Int), .int .u64 (x.v.mt.l : Int), .int .u64 (x.v.mt.m : Int)] (fun j hj => by
  match j, hj with
  | 0, _ | 1, _ | 2, _ | 3, _ => rfl) Tryz.underlying53 info_m4
theorem wpList_aob (HK : Hid (Kn b0 w0 w L R)) (hgd : o.guard = none) (ho : o.op = .alloc 55)
  (h : ∀ w' g, Hid (Kn b0 w0 w' (L ++ [(g, 55, obA ohZ)]) R) → wpList Tryz.prog ops Q rest (a.put o.dst (.pointer (some ⟨g, 0, none⟩))) w') : wpList Tryz.prog ops Q (o :: rest) a w :=
 wpList_ak obLay HK hgd ho h
theorem wpList_sob (HK : Hid (Kn b0 w0 w L R)) (i : Nat) (hgd : o.guard = none) (p q : Operand) (ho : o.op = .store 55 p q) (hL : L[i]? = some (g, 55, obA x)) (hx : a.eval p = .pointer (some ⟨g, 0, none⟩)) (hy : a.eval q = .agg (obA y))
  (h : ∀ w', Hid (Kn b0 w0 w' (L.set i (g, 55, obA y)) R) → wpList Tryz.prog ops Q rest (a.put o.dst undef) w') : wpList Tryz.prog ops Q (o :: rest) a w :=
 wpList_st obLay (p2 := y) HK i hgd p q ho hL rfl hx hy h
theorem wpList_sop (HK : Hid (Kn b0 w0 w L R)) (i : Nat) (hgd : o.guard = none) (p q : Operand) (ho : o.op = .store 49 p q) (hL : L[i]? = some (g, 55, obA x)) (hx : a.eval p = .pointer (some ⟨g, 3, none⟩)) {A : Option Addr} {n c : Nat} (hy : a.eval q = .slice A n c) (l : List Dct.Pr)
  (h : ∀ w', Hid (Kn b0 w0 w' (L.set i (g, 55, obA (x.sp A n c l))) R) → wpList Tryz.prog ops Q rest (a.put o.dst undef) w') : wpList Tryz.prog ops Q (o :: rest) a w :=
 wpList_sc HK i hgd _ p q ho hL hx hy rfl rfl (by show 3 < 11; decide) info_pr1 fun w' h1 _ => h w' h1
theorem wpList_sov (HK : Hid (Kn b0 w0 w L R)) (i : Nat) (hgd : o.guard = none) (p q : Operand) (ho : o.op = .store 50 p q) (hL : L[i]? = some (g, 55, obA x)) (hx : a.eval p = .pointer (some ⟨g, 4, none⟩)) {A : Option Addr} {n c : Nat} (hy : a.eval q = .slice A n c) (l : List Val.V)
  (h : ∀ w', Hid (Kn b0 w0 w' (L.set i (g, 55, obA (x.sv A n c l))) R) → wpList Tryz.prog ops Q rest (a.put o.dst undef) w') : wpList Tryz.prog ops Q (o :: rest) a w :=
 wpList_sc HK i hgd _ p q ho hL hx hy rfl rfl (by show 4 < 11; decide) info_va1 fun w' h1 _ => h w' h1
theorem wpList_sor (HK : Hid (Kn b0 w0 w L R)) (i : Nat) (hgd : o.guard = none) (p q : Operand) (ho : o.op = .store 51 p q) (hL : L[i]? = some (g, 55, obA x)) (hx : a.eval p = .pointer (some ⟨g, 5, none⟩)) {A : Option Addr} {n c : Nat} (hy : a.eval q = .slice A n c) (l : List Rf)
  (h : ∀ w', Hid (Kn b0 w0 w' (L.set i (g, 55, obA (x.sr A n c l))) R) → wpList Tryz.prog ops Q rest (a.put o.dst undef) w') : wpList Tryz.prog ops Q (o :: rest) a w :=
 wpList_sc HK i hgd _ p q ho hL hx hy rfl rfl (by show 5 < 11; decide) info_rf1 fun w' h1 _ => h w' h1
theorem wpList_sod (HK : Hid (Kn b0 w0 w L R)) (i : Nat) (hgd : o.guard = none) (p q : Operand) (ho : o.op = .store 3 p q) (hL : L[i]? = some (g, 55, obA x)) (hx : a.eval p = .pointer (some ⟨g, 6, none⟩)) {d : Int} (hy : a.eval q = .int .i64 d)
  (h : ∀ w', Hid (Kn b0 w0 w' (L.set i (g, 55, obA (x.sd d))) R) → wpList Tryz.prog ops Q rest (a.put o.dst undef) w') : wpList Tryz.prog ops Q (o :: rest) a w :=
 wpList_sc HK i hgd _ p q ho hL hx hy rfl rfl (by show 6 < 11; decide) info_i1 fun w' h1 _ => h w' h1
theorem wpList_som (HK : Hid (Kn b0 w0 w L R)) (i : Nat) (hgd : o.guard = none) (p q : Operand) (ho : o.op = .store 53 p q) (hL : L[i]? = some (g, 55, obA x)) (hx : a.eval p = .pointer (some ⟨g, 7, none⟩)) {m : Mtr} (hy : a.eval q = .agg #[.int .i64 m.n, .int .u64 (m.s : Int), .int .u64 (m.l : Int), .int .u64 (m.m : Int)])
  (h : ∀ w', Hid (Kn b0 w0 w' (L.set i (g, 55, obA (x.sm m))) R) → wpList Tryz.prog ops Q rest (a.put o.dst undef) w') : wpList Tryz.prog ops Q (o :: rest) a w :=
 wpList_ss HK i hgd _ p q ho hL hx hy (by show 7 + 4 ≤ 11; decide) info_m4 (by simp [Value.oneCell']) fun w' h1 _ => h w' (by
  have e : putCells (obA x) 7 (#[Value.int .i64 m.n, .int .u64 (m.s : Int), .int .u64 (m.l : Int), .int .u64 (m.m : Int)] : Array Value).toList = obA (x.sm m) := rfl
  rw [e] at h1
  exact h1)
end
section
variable {w : World} {o : Oper} {a : Act} {x : Oh}
theorem exec_obx {b off : Nat} (p : Operand) (ho : o.op = .load 55 p) (hx : a.eval p = .pointer (some ⟨b, off, none⟩)) (hc : ∀ j v, (obL x)[j]? = some v → w.cell? ⟨b, off + j, none⟩ = some v) :
  (execOp a.eval o).run Tryz.prog w = .ok (.value (.agg (obA x))) w := exec_slv obLay (x := x) p ho hx Tryz.underlying55 hc
theorem exec_obn {b off : Nat} (p : Operand) (ho : o.op = .load 9 p) (hx : a.eval p = .pointer (some ⟨b, off, none⟩)) (hc : ∀ j v, (obL x)[j]? = some v → w.cell? ⟨b, off + j, none⟩ = some v) :
  (execOp a.eval o).run Tryz.prog w = .ok (.value (.string x.v.name)) w := exec_cell p ho hx (hc 0 _ rfl) Tryz.underlying9 rfl
theorem exec_obk {b off : Nat} (p : Operand) (ho : o.op = .load 3 p) (hx : a.eval p = .pointer (some ⟨b, off + 1, none⟩)) (hc : ∀ j v, (obL x)[j]? = some v → w.cell? ⟨b, off + j, none⟩ = some v) :
  (execOp a.eval o).run Tryz.prog w = .ok (.value (.int .i64 x.v.kind)) w := exec_cell p ho hx (hc 1 _ rfl) Tryz.underlying3 rfl
theorem exec_obr {b off : Nat} (p : Operand) (ho : o.op = .load 51 p) (hx : a.eval p = .pointer (some ⟨b, off + 5, none⟩)) (hc : ∀ j v, (obL x)[j]? = some v → w.cell? ⟨b, off + j, none⟩ = some v) :
  (execOp a.eval o).run Tryz.prog w = .ok (.value (.slice x.rA x.rn x.rc)) w := exec_cell p ho hx (hc 5 _ rfl) Tryz.underlying51 rfl
theorem exec_ixo {b off n c i : Nat} (q r : Operand) (ho : o.op = .indexAddr 22 q r) (hx : a.eval q = .slice (some ⟨b, off, none⟩) n c) (hq : a.eval r = .int .i64 (i : Int)) (h : i < n) :
  (execOp a.eval o).run Tryz.prog w = .ok (.value (.pointer (some ⟨b, off + i * 11, none⟩))) w := exec_slx obLay q r ho hx hq h
end
def rpA (p : Sto.Rp) : Array Value := #[.int .i64 p.e, .int .i64 p.v.k, .int .i64 p.v.n, .int .u64 (p.v.f : Int), .string p.v.s]
def ocA (x : Oh) (p : Sto.Rp) (t : Bool) (A : Option Addr) (n c : Nat) : Array Value := #[.string x.v.name, .int .i64 x.v.kind, .int .i64 x.v.cap, .slice x.pA x.pn x.pc, .slice x.vA x.vn x.vc, .slice x.rA x.rn x.rc, .int .i64 x.v.round, .int .i64 x.v.mt.n, .int .u64 (x.v.mt.s : Int), .int .u64 (x.v.mt.l : Int), .int .u64 (x.v.mt.m : Int), .int .i64 p.e, .int .i64 p.v.k, .int .i64 p.v.n, .int .u64 (p.v.f : Int), .string p.v.s, .bool t, .slice A n c]
theorem info_rp : (Tryz.prog.info? 33).map (·.size) = some 5 := by kernel_rfl
theorem info_oc : (Tryz.prog.info? 61).map (·.size) = some 18 := by kernel_rfl
section
variable {w : World} {o : Oper} {a : Act} {x : Oh} {p : Sto.Rp} {t : Bool} {A : Option Addr} {n c : Nat}
theorem exec_b2 (q r : Operand) (ho : o.op = .build 61 #[(0, q), (1, r)]) (hq : a.eval q = .agg (obA x)) (hr : a.eval r = .agg (rpA p)) :
  (execOp a.eval o).run Tryz.prog w = .ok (.value (.agg (ocA x p false none 0 0))) w := by
 have h : (Instr.build 61 #[(0, .agg (obA x)), (1, .agg (rpA p))]).run Tryz.prog w = .ok (.agg (ocA x p false none 0 0)) w := by
  unfold obA rpA ocA
  go_simp
 unfold execOp
 simp only [ho, Sem.run_bind, Sem.run_pure, Result.andThen_ok, List.map_toArray, List.map_cons, List.map_nil, hq, hr, h]
theorem exec_b3 (q r s : Operand) (ho : o.op = .build 61 #[(0, q), (1, r), (2, s)]) (hq : a.eval q = .agg (obA x)) (hr : a.eval r = .agg (rpA p)) (hs : a.eval s = .bool t) :
  (execOp a.eval o).run Tryz.prog w = .ok (.value (.agg (ocA x p t none 0 0))) w := by
 have h : (Instr.build 61 #[(0, .agg (obA x)), (1, .agg (rpA p)), (2, .bool t)]).run Tryz.prog w = .ok (.agg (ocA x p t none 0 0)) w := by
  unfold obA rpA ocA
  go_simp
 unfold execOp
 simp only [ho, Sem.run_bind, Sem.run_pure, Result.andThen_ok, List.map_toArray, List.map_cons, List.map_nil, hq, hr, hs, h]
theorem exec_b4 (q r s : Operand) (ho : o.op = .build 61 #[(0, q), (1, r), (3, s)]) (hq : a.eval q = .agg (obA x)) (hr : a.eval r = .agg (rpA p)) (hs : a.eval s = .slice A n c) :
  (execOp a.eval o).run Tryz.prog w = .ok (.value (.agg (ocA x p false A n c))) w := by
 have h : (Instr.build 61 #[(0, .agg (obA x)), (1, .agg (rpA p)), (3, .slice A n c)]).run Tryz.prog w = .ok (.agg (ocA x p false A n c)) w := by
  unfold obA rpA ocA
  go_simp
 unfold execOp
 simp only [ho, Sem.run_bind, Sem.run_pure, Result.andThen_ok, List.map_toArray, List.map_cons, List.map_nil, hq, hr, hs, h]
end
end Go.Proofs.YtpkodjllljnleaaGreat
set_option maxRecDepth 100000
namespace Go.Proofs.YtpkodjllljnleaaGreat
open Go.RowKit
def otL (x : Sto.Ot) : List Value := [.int .i64 x.r.c, .int .i64 x.r.e, .int .i64 x.r.r, .int .i64 x.p.e, .int .i64 x.p.v.k, .int .i64 x.p.v.n, .int .u64 (x.p.v.f : Int), .string x.p.v.s]
def otA (x : Sto.Ot) : Array Value := #[.int .i64 x.r.c, .int .i64 x.r.e, .int .i64 x.r.r, .int .i64 x.p.e, .int .i64 x.p.v.k, .int .i64 x.p.v.n, .int .u64 (x.p.v.f : Int), .string x.p.v.s]
def otZ : Sto.Ot := ⟨⟨0, 0, 0⟩, Sto.rz⟩
theorem info_otl : (Tryz.prog.info? 77).map (fun i => (i.zero, i.size, i.bytes)) = some (some (Value.agg (otA otZ)), 8, 72) := by kernel_rfl
def otLay : Lay Tryz.prog Sto.Ot where
 t := 34
 e := 77
 k := 8
 bytes := 72
 z := .agg (otA otZ)
 f := otL
 len := fun _ => rfl
 one := fun x u hu => by
  unfold otL at hu
  simp only [List.mem_cons, List.not_mem_nil, or_false] at hu
  rcases hu with rfl | rfl | rfl | rfl | rfl | rfl | rfl | rfl <;> rfl
 und := Tryz.underlying34
 info := info_otl
 zs := rfl
 pos := by decide
 small := by decide
def tF (_ : Sto.Ot) : Prop := True
section
variable {b0 : Nat} {w0 w : World} {L : List (Nat × TypeId × Array Value)} {R : List RowE} {ops : Array Oper} {rest : List Oper} {o : Oper} {a : Act} {Q : Exit → Act → World → Prop} {K : Act → World → Prop} {E : Prop} {g : Nat} {x y : Oh} {p q : Sto.Rp} {t u : Bool} {A B : Option Addr} {n c m d : Nat}
theorem wpList_arp (HK : Hid (Kn b0 w0 w L R)) (hgd : o.guard = none) (ho : o.op = .alloc 33)
  (h : ∀ w' g, Hid (Kn b0 w0 w' (L ++ [(g, 33, rpA Sto.rz)]) R) → wpList Tryz.prog ops Q rest (a.put o.dst (.pointer (some ⟨g, 0, none⟩))) w') : wpList Tryz.prog ops Q (o :: rest) a w :=
 wpList_plain hgd fun K hK => by
  have h4 := h _ w.heap.size (zH (HK.out.alloc _ _))
  unfold Oper.wp execOp
  simp only [ho]
  unfold rpA Sto.rz at h4
  go_simp
  exact hK _ _ h4
theorem kwp_srp (HK : Hid (Kn b0 w0 w L R)) (i : Nat) (r s : Operand) (ho : o.op = .store 33 r s) (hL : L[i]? = some (g, 33, rpA p)) (hx : a.eval r = .pointer (some ⟨g, 0, none⟩)) (hy : a.eval s = .agg (rpA q))
  (h : ∀ w', Hid (Kn b0 w0 w' (L.set i (g, 33, rpA q)) R) → K (a.put o.dst undef) w') : o.wp Tryz.prog a w K Q :=
 kwp_ss HK _ r s ho i hL hx hy (by show 5 ≤ 5; decide) info_rp (by simp [rpA, Value.oneCell']) fun w' h1 _ => h w' (by
  have e : putCells (rpA p) 0 (rpA q).toList = rpA q := by rw [putCells_all (vs := (rpA q).toList) (cs := rpA p) rfl, Array.toArray_toList]
  rw [e] at h1
  exact h1)
theorem wpList_srp (HK : Hid (Kn b0 w0 w L R)) (i : Nat) (hgd : o.guard = none) (r s : Operand) (ho : o.op = .store 33 r s) (hL : L[i]? = some (g, 33, rpA p)) (hx : a.eval r = .pointer (some ⟨g, 0, none⟩)) (hy : a.eval s = .agg (rpA q))
  (h : ∀ w', Hid (Kn b0 w0 w' (L.set i (g, 33, rpA q)) R) → wpList Tryz.prog ops Q rest (a.put o.dst undef) w') : wpList Tryz.prog ops Q (o :: rest) a w :=
 wpList_plain hgd fun _ hK => kwp_srp HK i r s ho hL hx hy fun w' h1 => hK _ _ (h w' h1)
theorem step_srp (HK : Hid (Kn b0 w0 w L R)) (i : Nat) (hgd : o.guard = none) (r s : Operand) (ho : o.op = .store 33 r s) (hL : L[i]? = some (g, 33, rpA p)) (hx : a.eval r = .pointer (some ⟨g, 0, none⟩)) (hy : a.eval s = .agg (rpA q))
  (h : ∀ w', Hid (Kn b0 w0 w' (L.set i (g, 33, rpA q)) R) → K (a.put o.dst undef) w') : if Region.wanted o (yielded ops a.tmps) = true then Oper.wp Tryz.prog o a w K Q else E := by
 rw [if_pos (by simp [Region.wanted, hgd])]
 exact kwp_srp HK i r s ho hL hx hy h
theorem krp (HK : Hid (Kn b0 w0 w L R)) (i : Nat) (r : Operand) (ho : o.op = .load 33 r) (hL : L[i]? = some (g, 33, rpA p)) (hx : a.eval r = .pointer (some ⟨g, 0, none⟩)) :
  (execOp a.eval o).run Tryz.prog w = .ok (.value (.agg (rpA p))) w :=
 kexec_ls HK _ r ho i hL hx (rpA p) (fun j _ => by rw [Nat.zero_add]) Tryz.underlying33 info_rp
theorem wpList_sre (HK : Hid (Kn b0 w0 w L R)) (i : Nat) (hgd : o.guard = none) (r s : Operand) (ho : o.op = .store 31 r s) (hL : L[i]? = some (g, 33, rpA p)) (hx : a.eval r = .pointer (some ⟨g, 0, none⟩)) {z : Int} (hy : a.eval s = .int .i64 z)
  (h : ∀ w', Hid (Kn b0 w0 w' (L.set i (g, 33, rpA ⟨z, p.v⟩)) R) → wpList Tryz.prog ops Q rest (a.put o.dst undef) w') : wpList Tryz.prog ops Q (o :: rest) a w :=
 wpList_sc HK i hgd _ r s ho hL hx hy rfl rfl (by show 0 < 5; decide) (by kernel_rfl) fun w' h1 _ => h w' h1
theorem wpList_srv (HK : Hid (Kn b0 w0 w L R)) (i : Nat) (hgd : o.guard = none) (r s : Operand) (ho : o.op = .store 27 r s) (hL : L[i]? = some (g, 33, rpA p)) (hx : a.eval r = .pointer (some ⟨g, 1, none⟩)) {z : Val.V} (hy : a.eval s = .agg #[.int .i64 z.k, .int .i64 z.n, .int .u64 (z.f : Int), .string z.s])
  (h : ∀ w', Hid (Kn b0 w0 w' (L.set i (g, 33, rpA ⟨p.e, z⟩)) R) → wpList Tryz.prog ops Q rest (a.put o.dst undef) w') : wpList Tryz.prog ops Q (o :: rest) a w :=
 wpList_ss HK i hgd _ r s ho hL hx hy (by show 1 + 4 ≤ 5; decide) info_v4 (by simp [Value.oneCell']) fun w' h1 _ => h w' (by
  have e : putCells (rpA p) 1 (#[Value.int .i64 z.k, .int .i64 z.n, .int .u64 (z.f : Int), .string z.s] : Array Value).toList = rpA ⟨p.e, z⟩ := rfl
  rw [e] at h1
  exact h1)
theorem step_aoc (HK : Hid (Kn b0 w0 w L R)) (hgd : o.guard = none) (ho : o.op = .alloc 61)
  (h : ∀ w' g, Hid (Kn b0 w0 w' (L ++ [(g, 61, ocA ohZ Sto.rz false none 0 0)]) R) → Hid (Below w.heap.size w w') → K (a.put o.dst (.pointer (some ⟨g, 0, none⟩))) w') : if Region.wanted o (yielded ops a.tmps) = true then Oper.wp Tryz.prog o a w K Q else E := by
 rw [if_pos (by simp [Region.wanted, hgd])]
 have h4 := h _ w.heap.size (zH (HK.out.alloc _ _)) (zH ((Below.refl _ w).alloc (Nat.le_refl _) _))
 unfold Oper.wp execOp
 simp only [ho]
 unfold ocA ohZ Sto.rz Mt.zero at h4
 go_simp
 exact h4
theorem kwp_soc (HK : Hid (Kn b0 w0 w L R)) (i : Nat) (r s : Operand) (ho : o.op = .store 61 r s) (hL : L[i]? = some (g, 61, ocA x p t A n c)) (hx : a.eval r = .pointer (some ⟨g, 0, none⟩)) (hy : a.eval s = .agg (ocA y q u B m d))
  (h : ∀ w', Hid (Kn b0 w0 w' (L.set i (g, 61, ocA y q u B m d)) R) → K (a.put o.dst undef) w') : o.wp Tryz.prog a w K Q :=
 kwp_ss HK _ r s ho i hL hx hy (by show 18 ≤ 18; decide) info_oc (by simp [ocA, Value.oneCell']) fun w' h1 _ => h w' (by
  have e : putCells (ocA x p t A n c) 0 (ocA y q u B m d).toList = ocA y q u B m d := by rw [putCells_all (vs := (ocA y q u B m d).toList) (cs := ocA x p t A n c) rfl, Array.toArray_toList]
  rw [e] at h1
  exact h1)
theorem wpList_soc (HK : Hid (Kn b0 w0 w L R)) (i : Nat) (hgd : o.guard = none) (r s : Operand) (ho : o.op = .store 61 r s) (hL : L[i]? = some (g, 61, ocA x p t A n c)) (hx : a.eval r = .pointer (some ⟨g, 0, none⟩)) (hy : a.eval s = .agg (ocA y q u B m d))
  (h : ∀ w', Hid (Kn b0 w0 w' (L.set i (g, 61, ocA y q u B m d)) R) → wpList Tryz.prog ops Q rest (a.put o.dst undef) w') : wpList Tryz.prog ops Q (o :: rest) a w :=
 wpList_plain hgd fun _ hK => kwp_soc HK i r s ho hL hx hy fun w' h1 => hK _ _ (h w' h1)
theorem step_soc (HK : Hid (Kn b0 w0 w L R)) (i : Nat) (hgd : o.guard = none) (r s : Operand) (ho : o.op = .store 61 r s) (hL : L[i]? = some (g, 61, ocA x p t A n c)) (hx : a.eval r = .pointer (some ⟨g, 0, none⟩)) (hy : a.eval s = .agg (ocA y q u B m d))
  (h : ∀ w', Hid (Kn b0 w0 w' (L.set i (g, 61, ocA y q u B m d)) R) → K (a.put o.dst undef) w') : if Region.wanted o (yielded ops a.tmps) = true then Oper.wp Tryz.prog o a w K Q else E := by
 rw [if_pos (by simp [Region.wanted, hgd])]
 exact kwp_soc HK i r s ho hL hx hy h
theorem koc_o (HK : Hid (Kn b0 w0 w L R)) (i : Nat) (r : Operand) (ho : o.op = .load 55 r) (hL : L[i]? = some (g, 61, ocA x p t A n c)) (hx : a.eval r = .pointer (some ⟨g, 0, none⟩)) :
  (execOp a.eval o).run Tryz.prog w = .ok (.value (.agg (obA x))) w :=
 kexec_ls HK _ r ho i hL hx (obA x) (fun j hj => by
  have hj : j < 11 := hj
  match j, hj with
  | 0, _ | 1, _ | 2, _ | 3, _ | 4, _ | 5, _ | 6, _ | 7, _ | 8, _ | 9, _ | 10, _ => rfl) Tryz.underlying55 info_ob
theorem koc_p (HK : Hid (Kn b0 w0 w L R)) (i : Nat) (r : Operand) (ho : o.op = .load 33 r) (hL : L[i]? = some (g, 61, ocA x p t A n c)) (hx : a.eval r = .pointer (some ⟨g, 11, none⟩)) :
  (execOp a.eval o).run Tryz.prog w = .ok (.value (.agg (rpA p))) w :=
 kexec_ls HK _ r ho i hL hx (rpA p) (fun j hj => by
  have hj : j < 5 := hj
  match j, hj with
  | 0, _ | 1, _ | 2, _ | 3, _ | 4, _ => rfl) Tryz.underlying33 info_rp
theorem koc_t (HK : Hid (Kn b0 w0 w L R)) (i : Nat) (r : Operand) (ho : o.op = .load 4 r) (hL : L[i]? = some (g, 61, ocA x p t A n c)) (hx : a.eval r = .pointer (some ⟨g, 16, none⟩)) :
  (execOp a.eval o).run Tryz.prog w = .ok (.value (.bool t)) w := kexec_lc HK _ r ho i hL hx rfl Tryz.underlying4 rfl
theorem koc_s (HK : Hid (Kn b0 w0 w L R)) (i : Nat) (r : Operand) (ho : o.op = .load 34 r) (hL : L[i]? = some (g, 61, ocA x p t A n c)) (hx : a.eval r = .pointer (some ⟨g, 17, none⟩)) :
  (execOp a.eval o).run Tryz.prog w = .ok (.value (.slice A n c)) w := kexec_lc HK _ r ho i hL hx rfl Tryz.underlying34 rfl
end
section
variable {w : World} {o : Oper} {a : Act} {p q : Sto.Rp} {r : Rf}
theorem exec_bo1 (i : Operand) (ho : o.op = .build 77 #[(0, i)]) (hi : a.eval i = .agg #[.int .i64 r.c, .int .i64 r.e, .int .i64 r.r]) :
  (execOp a.eval o).run Tryz.prog w = .ok (.value (.agg (otA ⟨r, Sto.rz⟩))) w := by
 have h : (Instr.build 77 #[(0, .agg #[.int .i64 r.c, .int .i64 r.e, .int .i64 r.r])]).run Tryz.prog w = .ok (.agg (otA ⟨r, Sto.rz⟩)) w := by
  unfold otA Sto.rz
  go_simp
 unfold execOp
 simp only [ho, Sem.run_bind, Sem.run_pure, Result.andThen_ok, List.map_toArray, List.map_cons, List.map_nil, hi, h]
theorem exec_bo2 (i j : Operand) (ho : o.op = .build 77 #[(0, i), (1, j)]) (hi : a.eval i = .agg #[.int .i64 r.c, .int .i64 r.e, .int .i64 r.r]) (hj : a.eval j = .agg (rpA p)) :
  (execOp a.eval o).run Tryz.prog w = .ok (.value (.agg (otA ⟨r, p⟩))) w := by
 have h : (Instr.build 77 #[(0, .agg #[.int .i64 r.c, .int .i64 r.e, .int .i64 r.r]), (1, .agg (rpA p))]).run Tryz.prog w = .ok (.agg (otA ⟨r, p⟩)) w := by
  unfold otA rpA
  go_simp
 unfold execOp
 simp only [ho, Sem.run_bind, Sem.run_pure, Result.andThen_ok, List.map_toArray, List.map_cons, List.map_nil, hi, hj, h]
theorem rpq_all (p q : Sto.Rp) : decide (p = q) = (decide (p.e = q.e) && (decide (p.v.k = q.v.k) && decide (p.v.n = q.v.n) && decide ((p.v.f : Int) = (q.v.f : Int)) && decide (p.v.s.toList = q.v.s.toList))) := by
 obtain ⟨e, v⟩ := p
 obtain ⟨e', v'⟩ := q
 rw [← veq_all]
 show _ = (decide (e = e') && decide (v = v'))
 by_cases h1 : e = e' <;> by_cases h2 : v = v' <;> simp [h1, h2]
theorem exec_rpe {b : Bool} (i j : Operand) (ho : o.op = .binOp .eql 33 i j 33) (hx : a.eval i = .agg (rpA p)) (hy : a.eval j = .agg (rpA q)) (hb : decide (p = q) = b) :
  (execOp a.eval o).run Tryz.prog w = .ok (.value (.bool b)) w := by
 rw [rpq_all] at hb
 subst hb
 unfold execOp
 simp only [ho, hx, hy]
 unfold rpA
 go_simp
 by_cases h0 : p.e = q.e <;> by_cases h1 : p.v.k = q.v.k <;> by_cases h2 : p.v.n = q.v.n <;> by_cases h3 : (p.v.f : Int) = (q.v.f : Int) <;> by_cases h4 : p.v.s.toList = q.v.s.toList <;> simp [h0, h1, h2, h3, h4]
end
section
variable {fn : Func} {R : Ending → World → Prop} {a : Act} {w : World} {B : Nat} {x : Oh} {p : Sto.Rp} {t : Bool} {A : Option Addr} {n c : Nat} {u z y : Value} {q q2 q3 q4 : Tmp}
theorem ret_oc (hf : fn.results = #[.cell q 61]) (h2 : a.tmps[q]? = some (.pointer (some ⟨B, 0, none⟩))) (hd : a.defers = []) (hb : Blk w B 61 (ocA x p t A n c))
  (hR : R (.returned (.agg (ocA x p t A n c))) w) : bodyPost Tryz.prog fn R Exit.ret a w :=
 bodyPost_ret (results_cell_row hf a.tmps w B _ _ (0, 0) _ (by simp [h2]) hb Tryz.underlying61 rfl info_oc) hd hR
theorem ret_do (hf : fn.results = #[.tmp q2, .cell q 33, .tmp q3, .tmp q4]) (h2 : a.tmps[q]? = some (.pointer (some ⟨B, 0, none⟩))) (h3 : a.tmps[q2]? = some u) (h4 : a.tmps[q3]? = some z) (h5 : a.tmps[q4]? = some y) (hd : a.defers = []) (hb : Blk w B 33 (rpA p))
  (hR : R (.returned (.tuple #[u, .agg (rpA p), z, y])) w) : bodyPost Tryz.prog fn R Exit.ret a w := by
 refine bodyPost_ret (v := .tuple #[u, .agg (rpA p), z, y]) ?_ hd hR
 have h : (loadVar 33 ⟨B, 0, none⟩).run Tryz.prog w = .ok (.agg (rpA p)) w := run_loadVar_row (P := Tryz.prog) w B _ _ _ (0, 0) _ hb Tryz.underlying33 rfl info_rp
 simp [results, hf, asAddr, Sem.run_bind, h2, h3, h4, h5, h]
end
end Go.Proofs.YtpkodjllljnleaaGreat
namespace Go.Proofs.YtpkodjllljnleaaGreat
open Go.RowKit
set_option maxRecDepth 100000 in
set_option maxHeartbeats 3200000 in
theorem ogrow_any (n : Nat) (w : World) (hB0 : n * 144 ≤ 140737488355328) : Calls Tryz.prog 101 #[.slice none 0 0, .int .i64 n] w fun e w' => ∃ A c, e = .returned (.slice A 0 c) ∧ obLay.Own w.heap.size w' (.slice A 0 c) [] ∧ Below w.heap.size w w' := by
 by_cases h0 : n = 0
 ·subst h0
  have HK := zH (Kn.start w)
  clear hB0
  go_enter Tryz.func101, Tryz.ntmps101
  go_wp2_with fail
  go_ret
  exact ⟨_, _, rfl, Lay.Own.none _ _, HK.out.b⟩
 obtain ⟨i0, hi, hz0, hz1, hz2⟩ := info_parts obLay.info
 have hc1 := grownCap_ge w n 0 55
 have hr := Lib.run_append_nil_zeros (P := Tryz.prog) w 22 3 22 55 i0 obLay.z .i64 .i64 obLay.und Tryz.underlying3 hi hz0 n (by omega) (by rw [hz1]; decide) (by omega) (by rw [hz2]; show n * 144 ≤ _; omega)
 have HR := zH hr
 have hc2 := grownCap_le_maxLen w n 0 55 (by unfold maxLen; omega)
 generalize grownCap w n 0 55 = G at *
 have HO : Hid (obLay.Own w.heap.size (w.drew.alloc (.cells (Builtin.zeroCells obLay.z.cells n ++ Builtin.zeroCells obLay.z.cells (G - n)) 55)) (.slice (some ⟨w.heap.size, 0, none⟩) 0 G) []) := by
  have := World.ownsRow_made (base := w.heap.size) (e := 55) (size := 11) w.drew (Builtin.zeroCells obLay.z.cells n ++ Builtin.zeroCells obLay.z.cells (G - n)) G (Nat.le_refl _) hc2 (by
   rw [Array.size_append, size_zeroCells, size_zeroCells]
   have : obLay.z.cells.size = 11 := rfl
   rw [this]; omega)
  exact zH this
 have HB : Hid (Below w.heap.size w (w.drew.alloc (.cells (Builtin.zeroCells obLay.z.cells n ++ Builtin.zeroCells obLay.z.cells (G - n)) 55))) := zH ((Below.refl _ w).drew.alloc (Nat.le_refl _) _)
 generalize w.drew.alloc (.cells (Builtin.zeroCells obLay.z.cells n ++ Builtin.zeroCells obLay.z.cells (G - n)) 55) = wz at *
 clear hr hi hz0 hz1 hz2 hc1 hc2
 have h1 : ¬ ((n : Int) < 0) := by omega
 have h2 : (0 : Int) < (n : Int) := by omega
 have h3 : wrap64 (n : Int) = (n : Int) := by unfold wrap64; omega
 go_enter Tryz.func101, Tryz.ntmps101
 go_wp2_with (first | (at_builtin; refine Lib.wpList_append_run _ rfl _ _ _ _ rfl _ _ rfl rfl _ _ HR.out ?_))
 go_ret
 exact ⟨_, _, rfl, HO.out, HB.out⟩
set_option maxRecDepth 100000 in
set_option maxHeartbeats 6400000 in
theorem oconcat_any : Joins Tryz.prog 47 obLay oF := by
 intro g m ps w hm hb hg hc hs ht
 replace ht : (catP ps).length * 144 ≤ 140737488355328 := ht
 have HGo : Hid (∀ k, k < m → ∃ p, ps[k]? = some p ∧ Sls obLay oF w p.A p.n p.c p.l ∧ ∀ W, Below w.heap.size w W → W.cell? ⟨g, k, none⟩ = some (.slice p.A p.n p.c)) := zH fun k hk => by
  obtain ⟨p, hp⟩ := Lay.get_of (l := ps) (k := k) (by rw [hm]; exact hk)
  exact ⟨p, hp, hs p (List.mem_of_getElem? hp), fun W hW => (hW.cell (p := ⟨g, k, none⟩) hg).trans (hc k p hp)⟩
 have HLen : Hid (∀ k, (catP (ps.take k)).length * 144 ≤ 140737488355328) := zH fun k => Nat.le_trans (Nat.mul_le_mul_right _ (catP_le ps k)) ht
 have HTake : Hid (ps.take m = ps) := zH (by rw [← hm]; exact List.take_length)
 have HG := zH (fun W => ogrow_any (catP ps).length W ht)
 clear hc hs ht hm hg
 go_enter Tryz.func47, Tryz.ntmps47
 go_wp2_with fail
 go_loopw [3, 11] (fun vs vi wr => ∃ k : Nat, k ≤ m ∧ vs = .int .i64 ((catP (ps.take k)).length : Nat) ∧ vi = .int .i64 k ∧ w = wr) (fun _ vi _ => m - (intOf vi).toNat)
 case atStart => exact ⟨0, Nat.zero_le _, rfl, rfl, rfl⟩
 case round =>
  obtain ⟨k, hk, rfl, rfl, rfl⟩ := hrel
  by_cases hlt : k < m
  ·obtain ⟨p, hp, hsl, hcl⟩ := HGo.out k hlt
   have hcell := hcl _ (Below.refl _ _)
   have ht := HLen.out (k + 1)
   have he := catP_more hp
   have hpn := hsl.len
   rw [he, List.length_append] at ht
   have HE : Hid ((catP (ps.take (k + 1))).length = (catP (ps.take k)).length + p.n) := zH (by rw [he, List.length_append, hpn])
   rw [hpn] at ht
   clear he hp hsl hcl hpn
   obtain ⟨A, n, c, l⟩ := p
   simp only at hcell ht HE
   generalize (catP (ps.take k)).length = q at *
   have h1 : wrap64 ((q : Int) + (n : Int)) = ((q + n : Nat) : Int) := by unfold wrap64; omega
   have h2 : ¬ (((q + n : Nat) : Int) < 0) := by omega
   have h3 : ¬ ((q : Int) + (n : Int) < 0) := by omega
   go_wp2_with fail
   exact ⟨⟨k + 1, by omega, by rw [HE.out]; go_num, by go_num, by simp⟩, by simp [intOf]; omega⟩
  ·obtain rfl : k = m := by omega
   rw [HTake.out]
   go_wp2_with fail
   refine (HG.out _).mono ?_; rintro e w1 ⟨A0, c0, rfl, o1, b1⟩
   have HK := zH ((Kn.start _).called b1 o1)
   simp only [lnA] at HK
   clear b1 o1
   go_wp2_with fail
   go_loopw [6, 27] (fun vs vi wr => ∃ (q : Nat) (A : Option Addr) (c N : Nat), q ≤ k ∧ Hid ((catP (ps.take q)).length = N) ∧ vs = .slice A N c ∧ vi = .int .i64 q ∧ Hid (Kn w.heap.size w wr [] [row obLay (.slice A N c) (catP (ps.take q))])) (fun _ vi _ => k - (intOf vi).toNat)
   case atStart => exact ⟨0, A0, c0, 0, Nat.zero_le _, zH rfl, rfl, rfl, HK⟩
   case round =>
    clear HK
    obtain ⟨q, A, c, N, hq, hN, rfl, rfl, HK⟩ := hrel
    by_cases hlt : q < k
    ·obtain ⟨p, hp, hsl, hcl⟩ := HGo.out q hlt
     have hcell := hcl _ HK.out.b
     have HR := zH (let h := hsl.later HK.out.b; And.intro h.rd h.nl)
     have hlen := HLen.out (q + 1)
     have he := catP_more hp
     rw [he, List.length_append, hN.out] at hlen
     have HE := zH he
     have HPl : Hid (p.n = p.l.length) := zH hsl.len.symm
     have HL : Hid ((catP (ps.take q)).length + p.l.length ≤ 9223372036854775807 ∧ ((catP (ps.take q)).length + p.l.length) * obLay.bytes ≤ 211106232532992) := zH ⟨by rw [hN.out]; omega, by show _ * 144 ≤ _; rw [hN.out]; omega⟩
     have HN2 : Hid ((catP (ps.take q) ++ p.l).length = N + p.l.length) := zH (by rw [List.length_append, hN.out])
     clear he hp hlen hsl hcl
     obtain ⟨Ap, np, cp, lp⟩ := p
     simp only at hcell HR HPl HL HN2 HE
     go_wp2_with (first | (at_builtin; refine wpList_kmore HK obLay 0 rfl _ _ rfl rfl rfl lp rfl HPl.out HR HL (N := N + lp.length) HN2 ?_; intro A4 c4 _ HK'; simp only [List.set] at HK'; replace HK := HK'; clear HK'))
     refine ⟨⟨q + 1, A4, c4, N + lp.length, by omega, zH (by rw [HE.out, HN2.out]), rfl, by go_num, ?_⟩, by simp [intOf]; omega⟩
     rw [HE.out]
     exact HK
    ·obtain rfl : q = k := by omega
     rw [HTake.out] at HK hN
     obtain rfl := hN.out
     go_wp2_with fail
     go_ret
     exact ⟨A, _, c, rfl, HK.out.own 0 rfl, HK.out.b⟩
end Go.Proofs.YtpkodjllljnleaaGreat
namespace Go.Proofs.YtpkodjllljnleaaGreat
open Go.RowKit
set_option maxRecDepth 100000 in
set_option maxHeartbeats 3200000 in
theorem pgrow_any (n : Nat) (w : World) (hB0 : n * 56 ≤ 140737488355328) : Calls Tryz.prog 102 #[.slice none 0 0, .int .i64 n] w fun e w' => ∃ A c, e = .returned (.slice A 0 c) ∧ prLay.Own w.heap.size w' (.slice A 0 c) [] ∧ Below w.heap.size w w' := by
 by_cases h0 : n = 0
 ·subst h0
  have HK := zH (Kn.start w)
  clear hB0
  go_enter Tryz.func102, Tryz.ntmps102
  go_wp2_with fail
  go_ret
  exact ⟨_, _, rfl, Lay.Own.none _ _, HK.out.b⟩
 obtain ⟨i0, hi, hz0, hz1, hz2⟩ := info_parts prLay.info
 have hc1 := grownCap_ge w n 0 92
 have hr := Lib.run_append_nil_zeros (P := Tryz.prog) w 49 3 49 92 i0 prLay.z .i64 .i64 prLay.und Tryz.underlying3 hi hz0 n (by omega) (by rw [hz1]; decide) (by omega) (by rw [hz2]; show n * 56 ≤ _; omega)
 have HR := zH hr
 have hc2 := grownCap_le_maxLen w n 0 92 (by unfold maxLen; omega)
 generalize grownCap w n 0 92 = G at *
 have HO : Hid (prLay.Own w.heap.size (w.drew.alloc (.cells (Builtin.zeroCells prLay.z.cells n ++ Builtin.zeroCells prLay.z.cells (G - n)) 92)) (.slice (some ⟨w.heap.size, 0, none⟩) 0 G) []) := by
  have := World.ownsRow_made (base := w.heap.size) (e := 92) (size := 5) w.drew (Builtin.zeroCells prLay.z.cells n ++ Builtin.zeroCells prLay.z.cells (G - n)) G (Nat.le_refl _) hc2 (by
   rw [Array.size_append, size_zeroCells, size_zeroCells]
   have : prLay.z.cells.size = 5 := rfl
   rw [this]; omega)
  exact zH this
 have HB : Hid (Below w.heap.size w (w.drew.alloc (.cells (Builtin.zeroCells prLay.z.cells n ++ Builtin.zeroCells prLay.z.cells (G - n)) 92))) := zH ((Below.refl _ w).drew.alloc (Nat.le_refl _) _)
 generalize w.drew.alloc (.cells (Builtin.zeroCells prLay.z.cells n ++ Builtin.zeroCells prLay.z.cells (G - n)) 92) = wz at *
 clear hr hi hz0 hz1 hz2 hc1 hc2
 have h1 : ¬ ((n : Int) < 0) := by omega
 have h2 : (0 : Int) < (n : Int) := by omega
 have h3 : wrap64 (n : Int) = (n : Int) := by unfold wrap64; omega
 go_enter Tryz.func102, Tryz.ntmps102
 go_wp2_with (first | (at_builtin; refine Lib.wpList_append_run _ rfl _ _ _ _ rfl _ _ rfl rfl _ _ HR.out ?_))
 go_ret
 exact ⟨_, _, rfl, HO.out, HB.out⟩
set_option maxRecDepth 100000 in
set_option maxHeartbeats 6400000 in
theorem pconcat_any : Joins Tryz.prog 48 prLay prF := by
 intro g m ps w hm hb hg hc hs ht
 replace ht : (catP ps).length * 56 ≤ 140737488355328 := ht
 have HGo : Hid (∀ k, k < m → ∃ p, ps[k]? = some p ∧ Sls prLay prF w p.A p.n p.c p.l ∧ ∀ W, Below w.heap.size w W → W.cell? ⟨g, k, none⟩ = some (.slice p.A p.n p.c)) := zH fun k hk => by
  obtain ⟨p, hp⟩ := Lay.get_of (l := ps) (k := k) (by rw [hm]; exact hk)
  exact ⟨p, hp, hs p (List.mem_of_getElem? hp), fun W hW => (hW.cell (p := ⟨g, k, none⟩) hg).trans (hc k p hp)⟩
 have HLen : Hid (∀ k, (catP (ps.take k)).length * 56 ≤ 140737488355328) := zH fun k => Nat.le_trans (Nat.mul_le_mul_right _ (catP_le ps k)) ht
 have HTake : Hid (ps.take m = ps) := zH (by rw [← hm]; exact List.take_length)
 have HG := zH (fun W => pgrow_any (catP ps).length W ht)
 clear hc hs ht hm hg
 go_enter Tryz.func48, Tryz.ntmps48
 go_wp2_with fail
 go_loopw [3, 11] (fun vs vi wr => ∃ k : Nat, k ≤ m ∧ vs = .int .i64 ((catP (ps.take k)).length : Nat) ∧ vi = .int .i64 k ∧ w = wr) (fun _ vi _ => m - (intOf vi).toNat)
 case atStart => exact ⟨0, Nat.zero_le _, rfl, rfl, rfl⟩
 case round =>
  obtain ⟨k, hk, rfl, rfl, rfl⟩ := hrel
  by_cases hlt : k < m
  ·obtain ⟨p, hp, hsl, hcl⟩ := HGo.out k hlt
   have hcell := hcl _ (Below.refl _ _)
   have ht := HLen.out (k + 1)
   have he := catP_more hp
   have hpn := hsl.len
   rw [he, List.length_append] at ht
   have HE : Hid ((catP (ps.take (k + 1))).length = (catP (ps.take k)).length + p.n) := zH (by rw [he, List.length_append, hpn])
   rw [hpn] at ht
   clear he hp hsl hcl hpn
   obtain ⟨A, n, c, l⟩ := p
   simp only at hcell ht HE
   generalize (catP (ps.take k)).length = q at *
   have h1 : wrap64 ((q : Int) + (n : Int)) = ((q + n : Nat) : Int) := by unfold wrap64; omega
   have h2 : ¬ (((q + n : Nat) : Int) < 0) := by omega
   have h3 : ¬ ((q : Int) + (n : Int) < 0) := by omega
   go_wp2_with fail
   exact ⟨⟨k + 1, by omega, by rw [HE.out]; go_num, by go_num, by simp⟩, by simp [intOf]; omega⟩
  ·obtain rfl : k = m := by omega
   rw [HTake.out]
   go_wp2_with fail
   refine (HG.out _).mono ?_; rintro e w1 ⟨A0, c0, rfl, o1, b1⟩
   have HK := zH ((Kn.start _).called b1 o1)
   simp only [lnA] at HK
   clear b1 o1
   go_wp2_with fail
   go_loopw [6, 27] (fun vs vi wr => ∃ (q : Nat) (A : Option Addr) (c N : Nat), q ≤ k ∧ Hid ((catP (ps.take q)).length = N) ∧ vs = .slice A N c ∧ vi = .int .i64 q ∧ Hid (Kn w.heap.size w wr [] [row prLay (.slice A N c) (catP (ps.take q))])) (fun _ vi _ => k - (intOf vi).toNat)
   case atStart => exact ⟨0, A0, c0, 0, Nat.zero_le _, zH rfl, rfl, rfl, HK⟩
   case round =>
    clear HK
    obtain ⟨q, A, c, N, hq, hN, rfl, rfl, HK⟩ := hrel
    by_cases hlt : q < k
    ·obtain ⟨p, hp, hsl, hcl⟩ := HGo.out q hlt
     have hcell := hcl _ HK.out.b
     have HR := zH (let h := hsl.later HK.out.b; And.intro h.rd h.nl)
     have hlen := HLen.out (q + 1)
     have he := catP_more hp
     rw [he, List.length_append, hN.out] at hlen
     have HE := zH he
     have HPl : Hid (p.n = p.l.length) := zH hsl.len.symm
     have HL : Hid ((catP (ps.take q)).length + p.l.length ≤ 9223372036854775807 ∧ ((catP (ps.take q)).length + p.l.length) * prLay.bytes ≤ 211106232532992) := zH ⟨by rw [hN.out]; omega, by show _ * 56 ≤ _; rw [hN.out]; omega⟩
     have HN2 : Hid ((catP (ps.take q) ++ p.l).length = N + p.l.length) := zH (by rw [List.length_append, hN.out])
     clear he hp hlen hsl hcl
     obtain ⟨Ap, np, cp, lp⟩ := p
     simp only at hcell HR HPl HL HN2 HE
     go_wp2_with (first | (at_builtin; refine wpList_kmore HK prLay 0 rfl _ _ rfl rfl rfl lp rfl HPl.out HR HL (N := N + lp.length) HN2 ?_; intro A4 c4 _ HK'; simp only [List.set] at HK'; replace HK := HK'; clear HK'))
     refine ⟨⟨q + 1, A4, c4, N + lp.length, by omega, zH (by rw [HE.out, HN2.out]), rfl, by go_num, ?_⟩, by simp [intOf]; omega⟩
     rw [HE.out]
     exact HK
    ·obtain rfl : q = k := by omega
     rw [HTake.out] at HK hN
     obtain rfl := hN.out
     go_wp2_with fail
     go_ret
     exact ⟨A, _, c, rfl, HK.out.own 0 rfl, HK.out.b⟩
end Go.Proofs.YtpkodjllljnleaaGreat
namespace Go.Proofs.YtpkodjllljnleaaGreat
open Go.RowKit
set_option maxRecDepth 100000 in
set_option maxHeartbeats 3200000 in
theorem vgrow_any (n : Nat) (w : World) (hB0 : n * 40 ≤ 140737488355328) : Calls Tryz.prog 103 #[.slice none 0 0, .int .i64 n] w fun e w' => ∃ A c, e = .returned (.slice A 0 c) ∧ vaLay.Own w.heap.size w' (.slice A 0 c) [] ∧ Below w.heap.size w w' := by
 by_cases h0 : n = 0
 ·subst h0
  have HK := zH (Kn.start w)
  clear hB0
  go_enter Tryz.func103, Tryz.ntmps103
  go_wp2_with fail
  go_ret
  exact ⟨_, _, rfl, Lay.Own.none _ _, HK.out.b⟩
 obtain ⟨i0, hi, hz0, hz1, hz2⟩ := info_parts vaLay.info
 have hc1 := grownCap_ge w n 0 27
 have hr := Lib.run_append_nil_zeros (P := Tryz.prog) w 50 3 50 27 i0 vaLay.z .i64 .i64 vaLay.und Tryz.underlying3 hi hz0 n (by omega) (by rw [hz1]; decide) (by omega) (by rw [hz2]; show n * 40 ≤ _; omega)
 have HR := zH hr
 have hc2 := grownCap_le_maxLen w n 0 27 (by unfold maxLen; omega)
 generalize grownCap w n 0 27 = G at *
 have HO : Hid (vaLay.Own w.heap.size (w.drew.alloc (.cells (Builtin.zeroCells vaLay.z.cells n ++ Builtin.zeroCells vaLay.z.cells (G - n)) 27)) (.slice (some ⟨w.heap.size, 0, none⟩) 0 G) []) := by
  have := World.ownsRow_made (base := w.heap.size) (e := 27) (size := 4) w.drew (Builtin.zeroCells vaLay.z.cells n ++ Builtin.zeroCells vaLay.z.cells (G - n)) G (Nat.le_refl _) hc2 (by
   rw [Array.size_append, size_zeroCells, size_zeroCells]
   have : vaLay.z.cells.size = 4 := rfl
   rw [this]; omega)
  exact zH this
 have HB : Hid (Below w.heap.size w (w.drew.alloc (.cells (Builtin.zeroCells vaLay.z.cells n ++ Builtin.zeroCells vaLay.z.cells (G - n)) 27))) := zH ((Below.refl _ w).drew.alloc (Nat.le_refl _) _)
 generalize w.drew.alloc (.cells (Builtin.zeroCells vaLay.z.cells n ++ Builtin.zeroCells vaLay.z.cells (G - n)) 27) = wz at *
 clear hr hi hz0 hz1 hz2 hc1 hc2
 have h1 : ¬ ((n : Int) < 0) := by omega
 have h2 : (0 : Int) < (n : Int) := by omega
 have h3 : wrap64 (n : Int) = (n : Int) := by unfold wrap64; omega
 go_enter Tryz.func103, Tryz.ntmps103
 go_wp2_with (first | (at_builtin; refine Lib.wpList_append_run _ rfl _ _ _ _ rfl _ _ rfl rfl _ _ HR.out ?_))
 go_ret
 exact ⟨_, _, rfl, HO.out, HB.out⟩
set_option maxRecDepth 100000 in
set_option maxHeartbeats 6400000 in
theorem vconcat_any : Joins Tryz.prog 49 vaLay vF := by
 intro g m ps w hm hb hg hc hs ht
 replace ht : (catP ps).length * 40 ≤ 140737488355328 := ht
 have HGo : Hid (∀ k, k < m → ∃ p, ps[k]? = some p ∧ Sls vaLay vF w p.A p.n p.c p.l ∧ ∀ W, Below w.heap.size w W → W.cell? ⟨g, k, none⟩ = some (.slice p.A p.n p.c)) := zH fun k hk => by
  obtain ⟨p, hp⟩ := Lay.get_of (l := ps) (k := k) (by rw [hm]; exact hk)
  exact ⟨p, hp, hs p (List.mem_of_getElem? hp), fun W hW => (hW.cell (p := ⟨g, k, none⟩) hg).trans (hc k p hp)⟩
 have HLen : Hid (∀ k, (catP (ps.take k)).length * 40 ≤ 140737488355328) := zH fun k => Nat.le_trans (Nat.mul_le_mul_right _ (catP_le ps k)) ht
 have HTake : Hid (ps.take m = ps) := zH (by rw [← hm]; exact List.take_length)
 have HG := zH (fun W => vgrow_any (catP ps).length W ht)
 clear hc hs ht hm hg
 go_enter Tryz.func49, Tryz.ntmps49
 go_wp2_with fail
 go_loopw [3, 11] (fun vs vi wr => ∃ k : Nat, k ≤ m ∧ vs = .int .i64 ((catP (ps.take k)).length : Nat) ∧ vi = .int .i64 k ∧ w = wr) (fun _ vi _ => m - (intOf vi).toNat)
 case atStart => exact ⟨0, Nat.zero_le _, rfl, rfl, rfl⟩
 case round =>
  obtain ⟨k, hk, rfl, rfl, rfl⟩ := hrel
  by_cases hlt : k < m
  ·obtain ⟨p, hp, hsl, hcl⟩ := HGo.out k hlt
   have hcell := hcl _ (Below.refl _ _)
   have ht := HLen.out (k + 1)
   have he := catP_more hp
   have hpn := hsl.len
   rw [he, List.length_append] at ht
   have HE : Hid ((catP (ps.take (k + 1))).length = (catP (ps.take k)).length + p.n) := zH (by rw [he, List.length_append, hpn])
   rw [hpn] at ht
   clear he hp hsl hcl hpn
   obtain ⟨A, n, c, l⟩ := p
   simp only at hcell ht HE
   generalize (catP (ps.take k)).length = q at *
   have h1 : wrap64 ((q : Int) + (n : Int)) = ((q + n : Nat) : Int) := by unfold wrap64; omega
   have h2 : ¬ (((q + n : Nat) : Int) < 0) := by omega
   have h3 : ¬ ((q : Int) + (n : Int) < 0) := by omega
   go_wp2_with fail
   exact ⟨⟨k + 1, by omega, by rw [HE.out]; go_num, by go_num, by simp⟩, by simp [intOf]; omega⟩
  ·obtain rfl : k = m := by omega
   rw [HTake.out]
   go_wp2_with fail
   refine (HG.out _).mono ?_; rintro e w1 ⟨A0, c0, rfl, o1, b1⟩
   have HK := zH ((Kn.start _).called b1 o1)
   simp only [lnA] at HK
   clear b1 o1
   go_wp2_with fail
   go_loopw [6, 27] (fun vs vi wr => ∃ (q : Nat) (A : Option Addr) (c N : Nat), q ≤ k ∧ Hid ((catP (ps.take q)).length = N) ∧ vs = .slice A N c ∧ vi = .int .i64 q ∧ Hid (Kn w.heap.size w wr [] [row vaLay (.slice A N c) (catP (ps.take q))])) (fun _ vi _ => k - (intOf vi).toNat)
   case atStart => exact ⟨0, A0, c0, 0, Nat.zero_le _, zH rfl, rfl, rfl, HK⟩
   case round =>
    clear HK
    obtain ⟨q, A, c, N, hq, hN, rfl, rfl, HK⟩ := hrel
    by_cases hlt : q < k
    ·obtain ⟨p, hp, hsl, hcl⟩ := HGo.out q hlt
     have hcell := hcl _ HK.out.b
     have HR := zH (let h := hsl.later HK.out.b; And.intro h.rd h.nl)
     have hlen := HLen.out (q + 1)
     have he := catP_more hp
     rw [he, List.length_append, hN.out] at hlen
     have HE := zH he
     have HPl : Hid (p.n = p.l.length) := zH hsl.len.symm
     have HL : Hid ((catP (ps.take q)).length + p.l.length ≤ 9223372036854775807 ∧ ((catP (ps.take q)).length + p.l.length) * vaLay.bytes ≤ 211106232532992) := zH ⟨by rw [hN.out]; omega, by show _ * 40 ≤ _; rw [hN.out]; omega⟩
     have HN2 : Hid ((catP (ps.take q) ++ p.l).length = N + p.l.length) := zH (by rw [List.length_append, hN.out])
     clear he hp hlen hsl hcl
     obtain ⟨Ap, np, cp, lp⟩ := p
     simp only at hcell HR HPl HL HN2 HE
     go_wp2_with (first | (at_builtin; refine wpList_kmore HK vaLay 0 rfl _ _ rfl rfl rfl lp rfl HPl.out HR HL (N := N + lp.length) HN2 ?_; intro A4 c4 _ HK'; simp only [List.set] at HK'; replace HK := HK'; clear HK'))
     refine ⟨⟨q + 1, A4, c4, N + lp.length, by omega, zH (by rw [HE.out, HN2.out]), rfl, by go_num, ?_⟩, by simp [intOf]; omega⟩
     rw [HE.out]
     exact HK
    ·obtain rfl : q = k := by omega
     rw [HTake.out] at HK hN
     obtain rfl := hN.out
     go_wp2_with fail
     go_ret
     exact ⟨A, _, c, rfl, HK.out.own 0 rfl, HK.out.b⟩
end Go.Proofs.YtpkodjllljnleaaGreat
