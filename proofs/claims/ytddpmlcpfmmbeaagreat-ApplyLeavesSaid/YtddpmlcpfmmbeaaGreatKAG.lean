/- A table compared with itself. No condition but those named. -/
import Derived.Test.YtddpmlcpfmmbeaaGreatTk
import Derived.Test.YtddpmlcpfmmbeaaGreatKAA
import Derived.Test.YtddpmlcpfmmbeaaGreatKAE
import Derived.Test.YtddpmlcpfmmbeaaGreatKAF
import Derived.OpenShut
import Derived.ChangeKeysEq
import Derived.KernelRfl
set_option linter.unusedSimpArgs false
set_option linter.unusedVariables false
set_option maxRecDepth 100000
set_option maxHeartbeats 25600000
namespace Go.Proofs.YtddpmlcpfmmbeaaGreat
section
open Go.ChangeShapes Go.WideShapes Go.Deep Go.RowKit
def seA(s:Ses.S):Array Value:=#[.bool s.live,.int .i64 s.ep,.int .i64 s.rq,.bool s.dn,.int .i64 s.p.e,.int .i64 s.p.v.k,.int .i64 s.p.v.n,.int .u64 (s.p.v.f:Int),.string s.p.v.s]
def tbA(t:Ses.T):Array Value:=#[.bool t.s0.live,.int .i64 t.s0.ep,.int .i64 t.s0.rq,.bool t.s0.dn,.int .i64 t.s0.p.e,.int .i64 t.s0.p.v.k,.int .i64 t.s0.p.v.n,.int .u64 (t.s0.p.v.f:Int),.string t.s0.p.v.s,.bool t.s1.live,.int .i64 t.s1.ep,.int .i64 t.s1.rq,.bool t.s1.dn,.int .i64 t.s1.p.e,.int .i64 t.s1.p.v.k,.int .i64 t.s1.p.v.n,.int .u64 (t.s1.p.v.f:Int),.string t.s1.p.v.s,.bool t.s2.live,.int .i64 t.s2.ep,.int .i64 t.s2.rq,.bool t.s2.dn,.int .i64 t.s2.p.e,.int .i64 t.s2.p.v.k,.int .i64 t.s2.p.v.n,.int .u64 (t.s2.p.v.f:Int),.string t.s2.p.v.s,.bool t.s3.live,.int .i64 t.s3.ep,.int .i64 t.s3.rq,.bool t.s3.dn,.int .i64 t.s3.p.e,.int .i64 t.s3.p.v.k,.int .i64 t.s3.p.v.n,.int .u64 (t.s3.p.v.f:Int),.string t.s3.p.v.s,.bool t.s4.live,.int .i64 t.s4.ep,.int .i64 t.s4.rq,.bool t.s4.dn,.int .i64 t.s4.p.e,.int .i64 t.s4.p.v.k,.int .i64 t.s4.p.v.n,.int .u64 (t.s4.p.v.f:Int),.string t.s4.p.v.s]
def tz:Ses.T:=⟨Ses.z,Ses.z,Ses.z,Ses.z,Ses.z⟩
theorem info_sez:(Tryz.prog.info? 30).map (fun i=>(i.zero,i.size,i.bytes))=some (some (Value.agg (seA Ses.z)),9,80):=by kernel_rfl
theorem info_se:(Tryz.prog.info? 30).map (·.size)=some 9:=by kernel_rfl
theorem info_tbz:(Tryz.prog.info? 31).map (fun i=>(i.zero,i.size,i.bytes))=some (some (Value.agg (tbA tz)),45,400):=by kernel_rfl
theorem info_tb:(Tryz.prog.info? 31).map (·.size)=some 45:=by kernel_rfl
theorem tb_at{c:Int}(h:0≤c∧c<5)(t:Ses.T)(j:Nat)(hj:j<9):(tbA t)[c.toNat*9+j]?=(seA (t.get c))[j]?:=by
 rcases Ses.cases5 h with rfl|rfl|rfl|rfl|rfl
 ·match j,hj with
  | 0,_|1,_|2,_|3,_|4,_|5,_|6,_|7,_|8,_=>rfl
 ·match j,hj with
  | 0,_|1,_|2,_|3,_|4,_|5,_|6,_|7,_|8,_=>rfl
 ·match j,hj with
  | 0,_|1,_|2,_|3,_|4,_|5,_|6,_|7,_|8,_=>rfl
 ·match j,hj with
  | 0,_|1,_|2,_|3,_|4,_|5,_|6,_|7,_|8,_=>rfl
 ·match j,hj with
  | 0,_|1,_|2,_|3,_|4,_|5,_|6,_|7,_|8,_=>rfl
theorem tb_put{c:Int}(h:0≤c∧c<5)(t:Ses.T)(s:Ses.S):putCells (tbA t) (c.toNat*9) (seA s).toList=tbA (t.set c s):=by
 rcases Ses.cases5 h with rfl|rfl|rfl|rfl|rfl<;>kernel_rfl
theorem tb_live{c:Int}(h:0≤c∧c<5)(t:Ses.T)(b:Bool):(tbA t).setIfInBounds (c.toNat*9) (.bool b)=tbA (t.set c { t.get c with live:=b }):=by
 rcases Ses.cases5 h with rfl|rfl|rfl|rfl|rfl<;>kernel_rfl
theorem tb_rq{c:Int}(h:0≤c∧c<5)(t:Ses.T)(n:Int):(tbA t).setIfInBounds (c.toNat*9+2) (.int .i64 n)=tbA (t.set c { t.get c with rq:=n }):=by
 rcases Ses.cases5 h with rfl|rfl|rfl|rfl|rfl<;>kernel_rfl
theorem tb_dn{c:Int}(h:0≤c∧c<5)(t:Ses.T)(b:Bool):(tbA t).setIfInBounds (c.toNat*9+3) (.bool b)=tbA (t.set c { t.get c with dn:=b }):=by
 rcases Ses.cases5 h with rfl|rfl|rfl|rfl|rfl<;>kernel_rfl
theorem tb_p{c:Int}(h:0≤c∧c<5)(t:Ses.T)(p:Sto.Rp):putCells (tbA t) (c.toNat*9+4) (rpA p).toList=tbA (t.set c { t.get c with p:=p }):=by
 rcases Ses.cases5 h with rfl|rfl|rfl|rfl|rfl<;>kernel_rfl
theorem tb_in{c:Int}(h:0≤c∧c<5)(t:Ses.T)(j:Nat)(hj:j<9):c.toNat*9+j<(tbA t).size:=by
 show _<45
 omega
theorem run_made{P:Program}{e:TypeId}{z:Value}{k b:Nat}(hi:(P.info? e).map (fun i=>(i.zero,i.size,i.bytes))=some (some z,k,b))(w:World):(Instr.alloc e true (.tuple #[])).run P w=.ok (.pointer (some ⟨w.heap.size,0,none⟩)) (w.alloc (.cells z.cells e)):=by
 obtain⟨i0,hi,hz0,hz1,hz2⟩:=info_parts hi
 simp[Instr.alloc,zeroValue,typeInfo,hi,hz0,newVar,newRow]
section
variable {b0:Nat}{w0 w:World}{L:List (Nat×TypeId×Array Value)}{R:List RowE}{ops:Array Oper}{rest:List Oper}{o:Oper}{a:Act}{Q:Exit→Act→World→Prop}{K:Act→World→Prop}{E:Prop}{g:Nat}{s u:Ses.S}{t t2:Ses.T}{p q:Sto.Rp}{c:Int}
theorem kwp_made{e:TypeId}{z:Value}{k b:Nat}(hi:(Tryz.prog.info? e).map (fun i=>(i.zero,i.size,i.bytes))=some (some z,k,b))(HK:Hid (Kn b0 w0 w L R))(ho:o.op=.alloc e)
  (h:∀w' g,Hid (Kn b0 w0 w' (L++[(g,e,z.cells)]) R)→Hid (Below w.heap.size w w')→K (a.put o.dst (.pointer (some ⟨g,0,none⟩))) w'):o.wp Tryz.prog a w K Q:=by
 have h4:=h _ w.heap.size (zH (HK.out.alloc e z.cells)) (zH ((Below.refl _ w).alloc (Nat.le_refl _) _))
 unfold Oper.wp execOp
 simp only[ho,Sem.run_bind,Sem.run_pure,run_made hi,Result.andThen_ok]
 exact h4
theorem kexec_lw(HK:Hid (Kn b0 w0 w L R))(ty:TypeId)(x:Operand)(ho:o.op=.load ty x)(i:Nat){off:Nat}{e:TypeId}{cs:Array Value}(hL:L[i]?=some (g,e,cs))(hx:a.eval x=.pointer (some ⟨g,off,none⟩))
  (vs:Array Value) (hv:∀j,j<vs.size→cs[off+j]?=vs[j]?) {d:TypeDesc} (hu:Tryz.prog.underlying ty=some d) (hd:d.isRow=true) (hi:(Tryz.prog.info? ty).map (·.size)=some vs.size) :
  (execOp a.eval o).run Tryz.prog w=.ok (.value (.agg vs)) w:=by
 have hc:w.rangeAt g off vs.toList:=fun j v hj=>by
  rw[Array.getElem?_toList] at hj
  exact HK.out.cell i hL (off+j) ((hv j (Array.getElem?_eq_some_iff.1 hj).1).trans hj)
 have h:=run_loadVar_mid (P:=Tryz.prog) w g off ty vs.toList _ hc hu hd (by simpa using hi)
 unfold execOp
 simp only[ho,hx,Instr.loadAt,Instr.sureAddr,Sem.run_bind,Sem.run_pure,Result.andThen_ok,h,Array.toArray_toList]
theorem wpList_ase(HK:Hid (Kn b0 w0 w L R))(hgd:o.guard=none)(ho:o.op=.alloc 30)
  (h:∀w' g,Hid (Kn b0 w0 w' (L++[(g,30,seA Ses.z)]) R)→wpList Tryz.prog ops Q rest (a.put o.dst (.pointer (some ⟨g,0,none⟩))) w'):wpList Tryz.prog ops Q (o::rest) a w:=
 wpList_plain hgd fun _ hK=>kwp_made info_sez HK ho fun w' g h1 _=>hK _ _ (h w' g h1)
theorem wpList_atb(HK:Hid (Kn b0 w0 w L R))(hgd:o.guard=none)(ho:o.op=.alloc 31)
  (h:∀w' g,Hid (Kn b0 w0 w' (L++[(g,31,tbA tz)]) R)→wpList Tryz.prog ops Q rest (a.put o.dst (.pointer (some ⟨g,0,none⟩))) w'):wpList Tryz.prog ops Q (o::rest) a w:=
 wpList_plain hgd fun _ hK=>kwp_made info_tbz HK ho fun w' g h1 _=>hK _ _ (h w' g h1)
theorem kwp_sse(HK:Hid (Kn b0 w0 w L R))(i:Nat)(x y:Operand)(ho:o.op=.store 30 x y)(hL:L[i]?=some (g,30,seA s))(hx:a.eval x=.pointer (some ⟨g,0,none⟩))(hy:a.eval y=.agg (seA u))
  (h:∀w',Hid (Kn b0 w0 w' (L.set i (g,30,seA u)) R)→K (a.put o.dst undef) w'):o.wp Tryz.prog a w K Q:=
 kwp_ss HK _ x y ho i hL hx hy (by show 9≤9;decide) info_se (by simp[seA,Value.oneCell']) fun w' h1 _=>h w' (by
  have e:putCells (seA s) 0 (seA u).toList=seA u:=by rw[putCells_all (vs:=(seA u).toList) (cs:=seA s) rfl,Array.toArray_toList]
  rw[e] at h1
  exact h1)
theorem wpList_sse(HK:Hid (Kn b0 w0 w L R))(i:Nat)(hgd:o.guard=none)(x y:Operand)(ho:o.op=.store 30 x y)(hL:L[i]?=some (g,30,seA s))(hx:a.eval x=.pointer (some ⟨g,0,none⟩))(hy:a.eval y=.agg (seA u))
  (h:∀w',Hid (Kn b0 w0 w' (L.set i (g,30,seA u)) R)→wpList Tryz.prog ops Q rest (a.put o.dst undef) w'):wpList Tryz.prog ops Q (o::rest) a w:=
 wpList_plain hgd fun _ hK=>kwp_sse HK i x y ho hL hx hy fun w' h1=>hK _ _ (h w' h1)
theorem kwp_stb(HK:Hid (Kn b0 w0 w L R))(i:Nat)(x y:Operand)(ho:o.op=.store 31 x y)(hL:L[i]?=some (g,31,tbA t))(hx:a.eval x=.pointer (some ⟨g,0,none⟩))(hy:a.eval y=.agg (tbA t2))
  (h:∀w',Hid (Kn b0 w0 w' (L.set i (g,31,tbA t2)) R)→K (a.put o.dst undef) w'):o.wp Tryz.prog a w K Q:=
 kwp_ss HK _ x y ho i hL hx hy (by show 45≤45;decide) info_tb (by simp[tbA,Value.oneCell']) fun w' h1 _=>h w' (by
  have e:putCells (tbA t) 0 (tbA t2).toList=tbA t2:=by rw[putCells_all (vs:=(tbA t2).toList) (cs:=tbA t) rfl,Array.toArray_toList]
  rw[e] at h1
  exact h1)
theorem wpList_stb(HK:Hid (Kn b0 w0 w L R))(i:Nat)(hgd:o.guard=none)(x y:Operand)(ho:o.op=.store 31 x y)(hL:L[i]?=some (g,31,tbA t))(hx:a.eval x=.pointer (some ⟨g,0,none⟩))(hy:a.eval y=.agg (tbA t2))
  (h:∀w',Hid (Kn b0 w0 w' (L.set i (g,31,tbA t2)) R)→wpList Tryz.prog ops Q rest (a.put o.dst undef) w'):wpList Tryz.prog ops Q (o::rest) a w:=
 wpList_plain hgd fun _ hK=>kwp_stb HK i x y ho hL hx hy fun w' h1=>hK _ _ (h w' h1)
theorem step_stb(HK:Hid (Kn b0 w0 w L R))(i:Nat)(hgd:o.guard=none)(x y:Operand)(ho:o.op=.store 31 x y)(hL:L[i]?=some (g,31,tbA t))(hx:a.eval x=.pointer (some ⟨g,0,none⟩))(hy:a.eval y=.agg (tbA t2))
  (h:∀w',Hid (Kn b0 w0 w' (L.set i (g,31,tbA t2)) R)→K (a.put o.dst undef) w'):if Region.wanted o (yielded ops a.tmps)=true then Oper.wp Tryz.prog o a w K Q else E:=by
 rw[if_pos (by simp[Region.wanted,hgd])]
 exact kwp_stb HK i x y ho hL hx hy h
theorem kwp_tss(HK:Hid (Kn b0 w0 w L R))(i:Nat)(hc:0≤c∧c<5)(x y:Operand)(ho:o.op=.store 30 x y)(hL:L[i]?=some (g,31,tbA t))(hx:a.eval x=.pointer (some ⟨g,c.toNat*9,none⟩))(hy:a.eval y=.agg (seA s))
  (h:∀w',Hid (Kn b0 w0 w' (L.set i (g,31,tbA (t.set c s))) R)→K (a.put o.dst undef) w'):o.wp Tryz.prog a w K Q:=
 kwp_ss HK _ x y ho i hL hx hy (by have:=tb_in hc t 8 (by decide);show _+9≤_;omega) info_se (by simp[seA,Value.oneCell']) fun w' h1 _=>h w' (by
  rw[tb_put hc] at h1
  exact h1)
theorem wpList_tss(HK:Hid (Kn b0 w0 w L R))(i:Nat)(hgd:o.guard=none)(hc:0≤c∧c<5)(x y:Operand)(ho:o.op=.store 30 x y)(hL:L[i]?=some (g,31,tbA t))(hx:a.eval x=.pointer (some ⟨g,c.toNat*9,none⟩))(hy:a.eval y=.agg (seA s))
  (h:∀w',Hid (Kn b0 w0 w' (L.set i (g,31,tbA (t.set c s))) R)→wpList Tryz.prog ops Q rest (a.put o.dst undef) w'):wpList Tryz.prog ops Q (o::rest) a w:=
 wpList_plain hgd fun _ hK=>kwp_tss HK i hc x y ho hL hx hy fun w' h1=>hK _ _ (h w' h1)
theorem step_tss(HK:Hid (Kn b0 w0 w L R))(i:Nat)(hgd:o.guard=none)(hc:0≤c∧c<5)(x y:Operand)(ho:o.op=.store 30 x y)(hL:L[i]?=some (g,31,tbA t))(hx:a.eval x=.pointer (some ⟨g,c.toNat*9,none⟩))(hy:a.eval y=.agg (seA s))
  (h:∀w',Hid (Kn b0 w0 w' (L.set i (g,31,tbA (t.set c s))) R)→K (a.put o.dst undef) w'):if Region.wanted o (yielded ops a.tmps)=true then Oper.wp Tryz.prog o a w K Q else E:=by
 rw[if_pos (by simp[Region.wanted,hgd])]
 exact kwp_tss HK i hc x y ho hL hx hy h
theorem kwp_tsp(HK:Hid (Kn b0 w0 w L R))(i:Nat)(hc:0≤c∧c<5)(x y:Operand)(ho:o.op=.store 28 x y)(hL:L[i]?=some (g,31,tbA t))(hx:a.eval x=.pointer (some ⟨g,c.toNat*9+4,none⟩))(hy:a.eval y=.agg (rpA p))
  (h:∀w',Hid (Kn b0 w0 w' (L.set i (g,31,tbA (t.set c { t.get c with p:=p }))) R)→K (a.put o.dst undef) w'):o.wp Tryz.prog a w K Q:=
 kwp_ss HK _ x y ho i hL hx hy (by have:=tb_in hc t 8 (by decide);show _+5≤_;omega) info_rp (by simp[rpA,Value.oneCell']) fun w' h1 _=>h w' (by
  rw[tb_p hc] at h1
  exact h1)
theorem wpList_tsp(HK:Hid (Kn b0 w0 w L R))(i:Nat)(hgd:o.guard=none)(hc:0≤c∧c<5)(x y:Operand)(ho:o.op=.store 28 x y)(hL:L[i]?=some (g,31,tbA t))(hx:a.eval x=.pointer (some ⟨g,c.toNat*9+4,none⟩))(hy:a.eval y=.agg (rpA p))
  (h:∀w',Hid (Kn b0 w0 w' (L.set i (g,31,tbA (t.set c { t.get c with p:=p }))) R)→wpList Tryz.prog ops Q rest (a.put o.dst undef) w'):wpList Tryz.prog ops Q (o::rest) a w:=
 wpList_plain hgd fun _ hK=>kwp_tsp HK i hc x y ho hL hx hy fun w' h1=>hK _ _ (h w' h1)
theorem kwp_tsl{d:Bool}(HK:Hid (Kn b0 w0 w L R))(i:Nat)(hc:0≤c∧c<5)(x y:Operand)(ho:o.op=.store 4 x y)(hL:L[i]?=some (g,31,tbA t))(hx:a.eval x=.pointer (some ⟨g,c.toNat*9,none⟩))(hy:a.eval y=.bool d)
  (h:∀w',Hid (Kn b0 w0 w' (L.set i (g,31,tbA (t.set c { t.get c with live:=d }))) R)→K (a.put o.dst undef) w'):o.wp Tryz.prog a w K Q:=
 kwp_sc HK _ x y ho i hL hx hy rfl rfl (by have:=tb_in hc t 0 (by decide);omega) (by kernel_rfl) fun w' h1 _=>h w' (by rw[tb_live hc] at h1;exact h1)
theorem wpList_tsl{d:Bool}(HK:Hid (Kn b0 w0 w L R))(i:Nat)(hgd:o.guard=none)(hc:0≤c∧c<5)(x y:Operand)(ho:o.op=.store 4 x y)(hL:L[i]?=some (g,31,tbA t))(hx:a.eval x=.pointer (some ⟨g,c.toNat*9,none⟩))(hy:a.eval y=.bool d)
  (h:∀w',Hid (Kn b0 w0 w' (L.set i (g,31,tbA (t.set c { t.get c with live:=d }))) R)→wpList Tryz.prog ops Q rest (a.put o.dst undef) w'):wpList Tryz.prog ops Q (o::rest) a w:=
 wpList_plain hgd fun _ hK=>kwp_tsl HK i hc x y ho hL hx hy fun w' h1=>hK _ _ (h w' h1)
theorem kwp_tsr{n:Int}(HK:Hid (Kn b0 w0 w L R))(i:Nat)(hc:0≤c∧c<5)(x y:Operand)(ho:o.op=.store 3 x y)(hL:L[i]?=some (g,31,tbA t))(hx:a.eval x=.pointer (some ⟨g,c.toNat*9+2,none⟩))(hy:a.eval y=.int .i64 n)
  (h:∀w',Hid (Kn b0 w0 w' (L.set i (g,31,tbA (t.set c { t.get c with rq:=n }))) R)→K (a.put o.dst undef) w'):o.wp Tryz.prog a w K Q:=
 kwp_sc HK _ x y ho i hL hx hy rfl rfl (by have:=tb_in hc t 2 (by decide);omega) (by kernel_rfl) fun w' h1 _=>h w' (by rw[tb_rq hc] at h1;exact h1)
theorem wpList_tsr{n:Int}(HK:Hid (Kn b0 w0 w L R))(i:Nat)(hgd:o.guard=none)(hc:0≤c∧c<5)(x y:Operand)(ho:o.op=.store 3 x y)(hL:L[i]?=some (g,31,tbA t))(hx:a.eval x=.pointer (some ⟨g,c.toNat*9+2,none⟩))(hy:a.eval y=.int .i64 n)
  (h:∀w',Hid (Kn b0 w0 w' (L.set i (g,31,tbA (t.set c { t.get c with rq:=n }))) R)→wpList Tryz.prog ops Q rest (a.put o.dst undef) w'):wpList Tryz.prog ops Q (o::rest) a w:=
 wpList_plain hgd fun _ hK=>kwp_tsr HK i hc x y ho hL hx hy fun w' h1=>hK _ _ (h w' h1)
theorem kwp_tsd{d:Bool}(HK:Hid (Kn b0 w0 w L R))(i:Nat)(hc:0≤c∧c<5)(x y:Operand)(ho:o.op=.store 4 x y)(hL:L[i]?=some (g,31,tbA t))(hx:a.eval x=.pointer (some ⟨g,c.toNat*9+3,none⟩))(hy:a.eval y=.bool d)
  (h:∀w',Hid (Kn b0 w0 w' (L.set i (g,31,tbA (t.set c { t.get c with dn:=d }))) R)→K (a.put o.dst undef) w'):o.wp Tryz.prog a w K Q:=
 kwp_sc HK _ x y ho i hL hx hy rfl rfl (by have:=tb_in hc t 3 (by decide);omega) (by kernel_rfl) fun w' h1 _=>h w' (by rw[tb_dn hc] at h1;exact h1)
theorem wpList_tsd{d:Bool}(HK:Hid (Kn b0 w0 w L R))(i:Nat)(hgd:o.guard=none)(hc:0≤c∧c<5)(x y:Operand)(ho:o.op=.store 4 x y)(hL:L[i]?=some (g,31,tbA t))(hx:a.eval x=.pointer (some ⟨g,c.toNat*9+3,none⟩))(hy:a.eval y=.bool d)
  (h:∀w',Hid (Kn b0 w0 w' (L.set i (g,31,tbA (t.set c { t.get c with dn:=d }))) R)→wpList Tryz.prog ops Q rest (a.put o.dst undef) w'):wpList Tryz.prog ops Q (o::rest) a w:=
 wpList_plain hgd fun _ hK=>kwp_tsd HK i hc x y ho hL hx hy fun w' h1=>hK _ _ (h w' h1)
theorem kwp_ssl{d:Bool}(HK:Hid (Kn b0 w0 w L R))(i:Nat)(x y:Operand)(ho:o.op=.store 4 x y)(hL:L[i]?=some (g,30,seA s))(hx:a.eval x=.pointer (some ⟨g,0,none⟩))(hy:a.eval y=.bool d)
  (h:∀w',Hid (Kn b0 w0 w' (L.set i (g,30,seA { s with live:=d })) R)→K (a.put o.dst undef) w'):o.wp Tryz.prog a w K Q:=
 kwp_sc HK _ x y ho i hL hx hy rfl rfl (by show 0<9;decide) (by kernel_rfl) fun w' h1 _=>h w' h1
theorem wpList_ssl{d:Bool}(HK:Hid (Kn b0 w0 w L R))(i:Nat)(hgd:o.guard=none)(x y:Operand)(ho:o.op=.store 4 x y)(hL:L[i]?=some (g,30,seA s))(hx:a.eval x=.pointer (some ⟨g,0,none⟩))(hy:a.eval y=.bool d)
  (h:∀w',Hid (Kn b0 w0 w' (L.set i (g,30,seA { s with live:=d })) R)→wpList Tryz.prog ops Q rest (a.put o.dst undef) w'):wpList Tryz.prog ops Q (o::rest) a w:=
 wpList_plain hgd fun _ hK=>kwp_ssl HK i x y ho hL hx hy fun w' h1=>hK _ _ (h w' h1)
theorem kwp_ssd{d:Bool}(HK:Hid (Kn b0 w0 w L R))(i:Nat)(x y:Operand)(ho:o.op=.store 4 x y)(hL:L[i]?=some (g,30,seA s))(hx:a.eval x=.pointer (some ⟨g,3,none⟩))(hy:a.eval y=.bool d)
  (h:∀w',Hid (Kn b0 w0 w' (L.set i (g,30,seA { s with dn:=d })) R)→K (a.put o.dst undef) w'):o.wp Tryz.prog a w K Q:=
 kwp_sc HK _ x y ho i hL hx hy rfl rfl (by show 3<9;decide) (by kernel_rfl) fun w' h1 _=>h w' h1
theorem wpList_ssd{d:Bool}(HK:Hid (Kn b0 w0 w L R))(i:Nat)(hgd:o.guard=none)(x y:Operand)(ho:o.op=.store 4 x y)(hL:L[i]?=some (g,30,seA s))(hx:a.eval x=.pointer (some ⟨g,3,none⟩))(hy:a.eval y=.bool d)
  (h:∀w',Hid (Kn b0 w0 w' (L.set i (g,30,seA { s with dn:=d })) R)→wpList Tryz.prog ops Q rest (a.put o.dst undef) w'):wpList Tryz.prog ops Q (o::rest) a w:=
 wpList_plain hgd fun _ hK=>kwp_ssd HK i x y ho hL hx hy fun w' h1=>hK _ _ (h w' h1)
theorem kwp_ssx{n:Int}(HK:Hid (Kn b0 w0 w L R))(i:Nat)(x y:Operand)(ho:o.op=.store 23 x y)(hL:L[i]?=some (g,30,seA s))(hx:a.eval x=.pointer (some ⟨g,4,none⟩))(hy:a.eval y=.int .i64 n)
  (h:∀w',Hid (Kn b0 w0 w' (L.set i (g,30,seA { s with p:=⟨n,s.p.v⟩ })) R)→K (a.put o.dst undef) w'):o.wp Tryz.prog a w K Q:=
 kwp_sc HK _ x y ho i hL hx hy rfl rfl (by show 4<9;decide) (by kernel_rfl) fun w' h1 _=>h w' h1
theorem wpList_ssx{n:Int}(HK:Hid (Kn b0 w0 w L R))(i:Nat)(hgd:o.guard=none)(x y:Operand)(ho:o.op=.store 23 x y)(hL:L[i]?=some (g,30,seA s))(hx:a.eval x=.pointer (some ⟨g,4,none⟩))(hy:a.eval y=.int .i64 n)
  (h:∀w',Hid (Kn b0 w0 w' (L.set i (g,30,seA { s with p:=⟨n,s.p.v⟩ })) R)→wpList Tryz.prog ops Q rest (a.put o.dst undef) w'):wpList Tryz.prog ops Q (o::rest) a w:=
 wpList_plain hgd fun _ hK=>kwp_ssx HK i x y ho hL hx hy fun w' h1=>hK _ _ (h w' h1)
theorem kwp_ssp(HK:Hid (Kn b0 w0 w L R))(i:Nat)(x y:Operand)(ho:o.op=.store 28 x y)(hL:L[i]?=some (g,30,seA s))(hx:a.eval x=.pointer (some ⟨g,4,none⟩))(hy:a.eval y=.agg (rpA p))
  (h:∀w',Hid (Kn b0 w0 w' (L.set i (g,30,seA { s with p:=p })) R)→K (a.put o.dst undef) w'):o.wp Tryz.prog a w K Q:=
 kwp_ss HK _ x y ho i hL hx hy (by show 4+5≤9;decide) info_rp (by simp[rpA,Value.oneCell']) fun w' h1 _=>h w' h1
theorem wpList_ssp(HK:Hid (Kn b0 w0 w L R))(i:Nat)(hgd:o.guard=none)(x y:Operand)(ho:o.op=.store 28 x y)(hL:L[i]?=some (g,30,seA s))(hx:a.eval x=.pointer (some ⟨g,4,none⟩))(hy:a.eval y=.agg (rpA p))
  (h:∀w',Hid (Kn b0 w0 w' (L.set i (g,30,seA { s with p:=p })) R)→wpList Tryz.prog ops Q rest (a.put o.dst undef) w'):wpList Tryz.prog ops Q (o::rest) a w:=
 wpList_plain hgd fun _ hK=>kwp_ssp HK i x y ho hL hx hy fun w' h1=>hK _ _ (h w' h1)
theorem kse(HK:Hid (Kn b0 w0 w L R))(i:Nat)(x:Operand)(ho:o.op=.load 30 x)(hL:L[i]?=some (g,30,seA s))(hx:a.eval x=.pointer (some ⟨g,0,none⟩)):
  (execOp a.eval o).run Tryz.prog w=.ok (.value (.agg (seA s))) w:=
 kexec_lw HK _ x ho i hL hx (seA s) (fun j _=>by rw[Nat.zero_add]) Tryz.underlying30 rfl info_se
theorem ktb(HK:Hid (Kn b0 w0 w L R))(i:Nat)(x:Operand)(ho:o.op=.load 31 x)(hL:L[i]?=some (g,31,tbA t))(hx:a.eval x=.pointer (some ⟨g,0,none⟩)):
  (execOp a.eval o).run Tryz.prog w=.ok (.value (.agg (tbA t))) w:=
 kexec_lw HK _ x ho i hL hx (tbA t) (fun j _=>by rw[Nat.zero_add]) Tryz.underlying31 rfl info_tb
theorem kts(HK:Hid (Kn b0 w0 w L R))(i:Nat)(hc:0≤c∧c<5)(x:Operand)(ho:o.op=.load 30 x)(hL:L[i]?=some (g,31,tbA t))(hx:a.eval x=.pointer (some ⟨g,c.toNat*9,none⟩)):
  (execOp a.eval o).run Tryz.prog w=.ok (.value (.agg (seA (t.get c)))) w:=
 kexec_lw HK _ x ho i hL hx (seA (t.get c)) (fun j hj=>tb_at hc t j hj) Tryz.underlying30 rfl info_se
theorem kse_l(HK:Hid (Kn b0 w0 w L R))(i:Nat)(x:Operand)(ho:o.op=.load 4 x)(hL:L[i]?=some (g,30,seA s))(hx:a.eval x=.pointer (some ⟨g,0,none⟩)):
  (execOp a.eval o).run Tryz.prog w=.ok (.value (.bool s.live)) w:=
 kexec_lc HK _ x ho i hL hx rfl Tryz.underlying4 rfl
theorem kse_e(HK:Hid (Kn b0 w0 w L R))(i:Nat)(x:Operand)(ho:o.op=.load 3 x)(hL:L[i]?=some (g,30,seA s))(hx:a.eval x=.pointer (some ⟨g,1,none⟩)):
  (execOp a.eval o).run Tryz.prog w=.ok (.value (.int .i64 s.ep)) w:=
 kexec_lc HK _ x ho i hL hx rfl Tryz.underlying3 rfl
theorem kse_r(HK:Hid (Kn b0 w0 w L R))(i:Nat)(x:Operand)(ho:o.op=.load 3 x)(hL:L[i]?=some (g,30,seA s))(hx:a.eval x=.pointer (some ⟨g,2,none⟩)):
  (execOp a.eval o).run Tryz.prog w=.ok (.value (.int .i64 s.rq)) w:=
 kexec_lc HK _ x ho i hL hx rfl Tryz.underlying3 rfl
theorem kse_d(HK:Hid (Kn b0 w0 w L R))(i:Nat)(x:Operand)(ho:o.op=.load 4 x)(hL:L[i]?=some (g,30,seA s))(hx:a.eval x=.pointer (some ⟨g,3,none⟩)):
  (execOp a.eval o).run Tryz.prog w=.ok (.value (.bool s.dn)) w:=
 kexec_lc HK _ x ho i hL hx rfl Tryz.underlying4 rfl
theorem kse_p(HK:Hid (Kn b0 w0 w L R))(i:Nat)(x:Operand)(ho:o.op=.load 28 x)(hL:L[i]?=some (g,30,seA s))(hx:a.eval x=.pointer (some ⟨g,4,none⟩)):
  (execOp a.eval o).run Tryz.prog w=.ok (.value (.agg (rpA s.p))) w:=
 kexec_lw HK _ x ho i hL hx (rpA s.p) (fun j hj=>by
  have hj:j<5:=hj
  match j,hj with
  | 0,_|1,_|2,_|3,_|4,_=>rfl) Tryz.underlying28 rfl info_rp
theorem kts_l(HK:Hid (Kn b0 w0 w L R))(i:Nat)(hc:0≤c∧c<5)(x:Operand)(ho:o.op=.load 4 x)(hL:L[i]?=some (g,31,tbA t))(hx:a.eval x=.pointer (some ⟨g,c.toNat*9,none⟩)):
  (execOp a.eval o).run Tryz.prog w=.ok (.value (.bool (t.get c).live)) w:=
 kexec_lc HK _ x ho i hL hx (tb_at hc t 0 (by decide)) Tryz.underlying4 rfl
theorem kts_d(HK:Hid (Kn b0 w0 w L R))(i:Nat)(hc:0≤c∧c<5)(x:Operand)(ho:o.op=.load 4 x)(hL:L[i]?=some (g,31,tbA t))(hx:a.eval x=.pointer (some ⟨g,c.toNat*9+3,none⟩)):
  (execOp a.eval o).run Tryz.prog w=.ok (.value (.bool (t.get c).dn)) w:=
 kexec_lc HK _ x ho i hL hx (tb_at hc t 3 (by decide)) Tryz.underlying4 rfl
theorem krf_c{x:Rf}(HK:Hid (Kn b0 w0 w L R))(i:Nat)(y:Operand)(ho:o.op=.load 3 y)(hL:L[i]?=some (g,35,#[.int .i64 x.c,.int .i64 x.e,.int .i64 x.r]))(hx:a.eval y=.pointer (some ⟨g,0,none⟩)):
  (execOp a.eval o).run Tryz.prog w=.ok (.value (.int .i64 x.c)) w:=kexec_lc HK _ y ho i hL hx rfl Tryz.underlying3 rfl
theorem krf_e{x:Rf}(HK:Hid (Kn b0 w0 w L R))(i:Nat)(y:Operand)(ho:o.op=.load 3 y)(hL:L[i]?=some (g,35,#[.int .i64 x.c,.int .i64 x.e,.int .i64 x.r]))(hx:a.eval y=.pointer (some ⟨g,1,none⟩)):
  (execOp a.eval o).run Tryz.prog w=.ok (.value (.int .i64 x.e)) w:=kexec_lc HK _ y ho i hL hx rfl Tryz.underlying3 rfl
theorem krf_r{x:Rf}(HK:Hid (Kn b0 w0 w L R))(i:Nat)(y:Operand)(ho:o.op=.load 3 y)(hL:L[i]?=some (g,35,#[.int .i64 x.c,.int .i64 x.e,.int .i64 x.r]))(hx:a.eval y=.pointer (some ⟨g,2,none⟩)):
  (execOp a.eval o).run Tryz.prog w=.ok (.value (.int .i64 x.r)) w:=kexec_lc HK _ y ho i hL hx rfl Tryz.underlying3 rfl
theorem exec_ixt(hc:0≤c∧c<5)(x y:Operand)(ho:o.op=.indexAddr 31 x y)(hx:a.eval x=.pointer (some ⟨g,0,none⟩))(hy:a.eval y=.int .i64 c):
  (execOp a.eval o).run Tryz.prog w=.ok (.value (.pointer (some ⟨g,c.toNat*9,none⟩))) w:=by
 have h:(Instr.indexAt 31 (.pointer (some ⟨g,0,none⟩)) (.int .i64 c)).run Tryz.prog w=.ok (.pointer (some ⟨g,c.toNat*9,none⟩)) w:=by
  rcases Ses.cases5 hc with rfl|rfl|rfl|rfl|rfl<;>kernel_rfl
 unfold execOp
 simp only[ho,hx,hy,Sem.run_bind,Sem.run_pure,Result.andThen_ok,h]
theorem ix_tb0(t:Ses.T)(w:World):(Instr.index 31 (.agg (tbA t)) (.int .i64 0)).run Tryz.prog w=.ok (.agg (seA t.s0)) w:=by kernel_rfl
theorem ix_tb1(t:Ses.T)(w:World):(Instr.index 31 (.agg (tbA t)) (.int .i64 1)).run Tryz.prog w=.ok (.agg (seA t.s1)) w:=by kernel_rfl
theorem ix_tb2(t:Ses.T)(w:World):(Instr.index 31 (.agg (tbA t)) (.int .i64 2)).run Tryz.prog w=.ok (.agg (seA t.s2)) w:=by kernel_rfl
theorem ix_tb3(t:Ses.T)(w:World):(Instr.index 31 (.agg (tbA t)) (.int .i64 3)).run Tryz.prog w=.ok (.agg (seA t.s3)) w:=by kernel_rfl
theorem ix_tb4(t:Ses.T)(w:World):(Instr.index 31 (.agg (tbA t)) (.int .i64 4)).run Tryz.prog w=.ok (.agg (seA t.s4)) w:=by kernel_rfl
theorem exec_ixs(hc:0≤c∧c<5)(x y:Operand)(ho:o.op=.index 31 x y)(hx:a.eval x=.agg (tbA t))(hy:a.eval y=.int .i64 c):
  (execOp a.eval o).run Tryz.prog w=.ok (.value (.agg (seA (t.get c)))) w:=by
 have h:(Instr.index 31 (.agg (tbA t)) (.int .i64 c)).run Tryz.prog w=.ok (.agg (seA (t.get c))) w:=by
  rcases Ses.cases5 hc with rfl|rfl|rfl|rfl|rfl
  ·exact ix_tb0 t w
  ·exact ix_tb1 t w
  ·exact ix_tb2 t w
  ·exact ix_tb3 t w
  ·exact ix_tb4 t w
 unfold execOp
 simp only[ho,hx,hy,Sem.run_bind,Sem.run_pure,Result.andThen_ok,h]
theorem exec_bz(ho:o.op=.build 30 #[]):
  (execOp a.eval o).run Tryz.prog w=.ok (.value (.agg (seA Ses.z))) w:=by
 have h:(Instr.build 30 #[]).run Tryz.prog w=.ok (.agg (seA Ses.z)) w:=by
  unfold seA Ses.z Sto.rz
  go_simp
 unfold execOp
 simp only[ho,Sem.run_bind,Sem.run_pure,Result.andThen_ok,List.map_toArray,List.map_cons,List.map_nil,h]
theorem exec_bo{e:Int}(x:Operand)(ho:o.op=.build 30 #[(1,x),(3,.const (.bool true))])(hx:a.eval x=.int .i64 e):
  (execOp a.eval o).run Tryz.prog w=.ok (.value (.agg (seA ⟨false,e,0,true,Sto.rz⟩))) w:=by
 have h:(Instr.build 30 #[(1,.int .i64 e),(3,.bool true)]).run Tryz.prog w=.ok (.agg (seA ⟨false,e,0,true,Sto.rz⟩)) w:=by
  unfold seA Sto.rz
  go_simp
 unfold execOp
 simp only[ho,Sem.run_bind,Sem.run_pure,Result.andThen_ok,List.map_toArray,List.map_cons,List.map_nil,hx,show a.eval (.const (.bool true))=.bool true from rfl,h]
theorem exec_rz(ho:o.op=.build 28 #[]):
  (execOp a.eval o).run Tryz.prog w=.ok (.value (.agg (rpA Sto.rz))) w:=by
 have h:(Instr.build 28 #[]).run Tryz.prog w=.ok (.agg (rpA Sto.rz)) w:=by
  unfold rpA Sto.rz
  go_simp
 unfold execOp
 simp only[ho,Sem.run_bind,Sem.run_pure,Result.andThen_ok,List.map_toArray,List.map_cons,List.map_nil,h]
theorem exec_rk{e:Int}(ho:o.op=.build 28 #[(0,.const (.int .i64 e))]):
  (execOp a.eval o).run Tryz.prog w=.ok (.value (.agg (rpA (Sto.err e)))) w:=by
 have h:(Instr.build 28 #[(0,.int .i64 e)]).run Tryz.prog w=.ok (.agg (rpA (Sto.err e))) w:=by
  unfold rpA Sto.err
  go_simp
 unfold execOp
 simp only[ho,Sem.run_bind,Sem.run_pure,Result.andThen_ok,List.map_toArray,List.map_cons,List.map_nil,show a.eval (.const (.int .i64 e))=.int .i64 e from rfl,h]
theorem seq_all(s u:Ses.S):decide (s=u)=(decide (s.live=u.live)&&decide (s.ep=u.ep)&&decide (s.rq=u.rq)&&decide (s.dn=u.dn)&&(decide (s.p.e=u.p.e)&&(decide (s.p.v.k=u.p.v.k)&&decide (s.p.v.n=u.p.v.n)&&decide ((s.p.v.f:Int)=(u.p.v.f:Int))&&decide (s.p.v.s.toList=u.p.v.s.toList)))):=by
 rw[← rpq_all s.p u.p]
 obtain⟨l,e,r,d,p⟩:=s
 obtain⟨l',e',r',d',p'⟩:=u
 dsimp only
 rw[Bool.eq_iff_iff]
 simp only[decide_eq_true_eq,Bool.and_eq_true,Ses.S.mk.injEq,and_assoc]
theorem exec_seN{b:Bool}(x y:Operand)(ho:o.op=.binOp .neq 30 x y 30)(hx:a.eval x=.agg (seA s))(hy:a.eval y=.agg (seA u))(hb:(!decide (s=u))=b):
  (execOp a.eval o).run Tryz.prog w=.ok (.value (.bool b)) w:=by
 rw[seq_all] at hb
 subst hb
 unfold execOp
 simp only[ho,hx,hy]
 unfold seA
 go_simp
 by_cases h0:s.live=u.live<;>by_cases h1:s.ep=u.ep<;>by_cases h2:s.rq=u.rq<;>by_cases h3:s.dn=u.dn<;>try simp[h0,h1,h2,h3]
 by_cases h4:s.p.e=u.p.e<;>by_cases h5:s.p.v.k=u.p.v.k<;>by_cases h6:s.p.v.n=u.p.v.n<;>by_cases h7:(s.p.v.f:Int)=(u.p.v.f:Int)<;>by_cases h8:s.p.v.s.toList=u.p.v.s.toList<;>simp[h4,h5,h6,h7,h8]
theorem exec_iE{m n:Int}{b:Bool}(x y:Operand)(ho:o.op=.binOp .eql 3 x y 3)(hx:a.eval x=.int .i64 m)(hy:a.eval y=.int .i64 n)(hb:decide (m=n)=b):
  (execOp a.eval o).run Tryz.prog w=.ok (.value (.bool b)) w:=by
 subst hb
 unfold execOp
 simp only[ho,hx,hy]
 go_simp
 exact Bool.eq_iff_iff.2 (by simp)
theorem exec_iN{m n:Int}{b:Bool}(x y:Operand)(ho:o.op=.binOp .neq 3 x y 3)(hx:a.eval x=.int .i64 m)(hy:a.eval y=.int .i64 n)(hb:(!decide (m=n))=b):
  (execOp a.eval o).run Tryz.prog w=.ok (.value (.bool b)) w:=by
 subst hb
 unfold execOp
 simp only[ho,hx,hy]
 go_simp
 exact Bool.eq_iff_iff.2 (by simp)
theorem exec_iL{m n:Int}{b:Bool}(x y:Operand)(ho:o.op=.binOp .lss 3 x y 3)(hx:a.eval x=.int .i64 m)(hy:a.eval y=.int .i64 n)(hb:decide (m<n)=b):
  (execOp a.eval o).run Tryz.prog w=.ok (.value (.bool b)) w:=by
 subst hb
 unfold execOp
 simp only[ho,hx,hy]
 go_simp
theorem exec_iG{m n:Int}{b:Bool}(x y:Operand)(ho:o.op=.binOp .gtr 3 x y 3)(hx:a.eval x=.int .i64 m)(hy:a.eval y=.int .i64 n)(hb:decide (n<m)=b):
  (execOp a.eval o).run Tryz.prog w=.ok (.value (.bool b)) w:=by
 subst hb
 unfold execOp
 simp only[ho,hx,hy]
 go_simp
theorem exec_iLe{m n:Int}{b:Bool}(x y:Operand)(ho:o.op=.binOp .leq 3 x y 3)(hx:a.eval x=.int .i64 m)(hy:a.eval y=.int .i64 n)(hb:decide (m≤n)=b):
  (execOp a.eval o).run Tryz.prog w=.ok (.value (.bool b)) w:=by
 subst hb
 unfold execOp
 simp only[ho,hx,hy]
 go_simp
theorem exec_iGe{m n:Int}{b:Bool}(x y:Operand)(ho:o.op=.binOp .geq 3 x y 3)(hx:a.eval x=.int .i64 m)(hy:a.eval y=.int .i64 n)(hb:decide (n≤m)=b):
  (execOp a.eval o).run Tryz.prog w=.ok (.value (.bool b)) w:=by
 subst hb
 unfold execOp
 simp only[ho,hx,hy]
 go_simp
theorem exec_dec{m n:Int}(x:Operand)(ho:o.op=.binOp .sub 3 x (.const (.int .i64 1)) 3)(hx:a.eval x=.int .i64 m)(hw:IntKind.i64.wrap (m-1)=n):
  (execOp a.eval o).run Tryz.prog w=.ok (.value (.int .i64 n)) w:=by
 have he:a.eval (.const (.int .i64 1))=.int .i64 1:=rfl
 unfold execOp
 simp only[ho,hx,he]
 go_simp
theorem exec_incz{m n:Int}(x:Operand)(ho:o.op=.binOp .add 3 x (.const (.int .i64 1)) 3)(hx:a.eval x=.int .i64 m)(hw:IntKind.i64.wrap (m+1)=n):
  (execOp a.eval o).run Tryz.prog w=.ok (.value (.int .i64 n)) w:=by
 have he:a.eval (.const (.int .i64 1))=.int .i64 1:=rfl
 unfold execOp
 simp only[ho,hx,he]
 go_simp
end
section
variable {fn:Func}{R:Ending→World→Prop}{a:Act}{w:World}{B B2:Nat}{s:Ses.S}{t:Ses.T}{p:Sto.Rp}{q q2:Tmp}
theorem ret_se(hf:fn.results=#[.cell q 30])(h2:a.tmps[q]?=some (.pointer (some ⟨B,0,none⟩)))(hd:a.defers=[])(hb:Blk w B 30 (seA s))
  (hR:R (.returned (.agg (seA s))) w):bodyPost Tryz.prog fn R Exit.ret a w:=
 bodyPost_ret (results_cell_row hf a.tmps w B _ _ (0,0) _ (by simp[h2]) hb Tryz.underlying30 rfl info_se) hd hR
theorem ret_tb(hf:fn.results=#[.cell q 31])(h2:a.tmps[q]?=some (.pointer (some ⟨B,0,none⟩)))(hd:a.defers=[])(hb:Blk w B 31 (tbA t))
  (hR:R (.returned (.agg (tbA t))) w):bodyPost Tryz.prog fn R Exit.ret a w:=
 bodyPost_ret (results_cell_row hf a.tmps w B _ _ (0,0) _ (by simp[h2]) hb Tryz.underlying31 rfl info_tb) hd hR
theorem ret_tp(hf:fn.results=#[.cell q 31,.cell q2 28])(h2:a.tmps[q]?=some (.pointer (some ⟨B,0,none⟩)))(h3:a.tmps[q2]?=some (.pointer (some ⟨B2,0,none⟩)))(hd:a.defers=[])(hb:Blk w B 31 (tbA t))(hb2:Blk w B2 28 (rpA p))
  (hR:R (.returned (.tuple #[.agg (tbA t),.agg (rpA p)])) w):bodyPost Tryz.prog fn R Exit.ret a w:=by
 refine bodyPost_ret (v:=.tuple #[.agg (tbA t),.agg (rpA p)]) ?_ hd hR
 have h:(loadVar 31 ⟨B,0,none⟩).run Tryz.prog w=.ok (.agg (tbA t)) w:=run_loadVar_row (P:=Tryz.prog) w B _ _ _ (0,0) _ hb Tryz.underlying31 rfl info_tb
 have h':(loadVar 28 ⟨B2,0,none⟩).run Tryz.prog w=.ok (.agg (rpA p)) w:=run_loadVar_row (P:=Tryz.prog) w B2 _ _ _ (0,0) _ hb2 Tryz.underlying28 rfl info_rp
 simp[results,hf,asAddr,Sem.run_bind,h2,h3,h,h']
end
def IsS(s:Ses.S)(w:World)(e:Ending)(w':World):Prop:=e=.returned (.agg (seA s))∧Below w.heap.size w w'
def IsT(t:Ses.T)(w:World)(e:Ending)(w':World):Prop:=e=.returned (.agg (tbA t))∧Below w.heap.size w w'
def IsTP(t:Ses.T)(p:Sto.Rp)(w:World)(e:Ending)(w':World):Prop:=e=.returned (.tuple #[.agg (tbA t),.agg (rpA p)])∧Below w.heap.size w w'
def IsInt(x:Int)(w:World)(e:Ending)(w':World):Prop:=e=.returned (.int .i64 x)∧Below w.heap.size w w'
end
section
open Go.RowKit
theorem cells_se:Tryz.prog.cellsOf 30=9:=by kernel_rfl
theorem run_seq(s:Ses.S)(w:World):(Op.equalIn 9999 30 (.agg (seA s)) (.agg (seA s))).run Tryz.prog w=.ok true w:=by
 unfold seA
 go_simp
theorem part_0(t:Ses.T)(w:World):(part 30 (tbA t) (0*9)).run Tryz.prog w=.ok (.agg (seA t.s0)) w:=by kernel_rfl
theorem part_1(t:Ses.T)(w:World):(part 30 (tbA t) (1*9)).run Tryz.prog w=.ok (.agg (seA t.s1)) w:=by kernel_rfl
theorem part_2(t:Ses.T)(w:World):(part 30 (tbA t) (2*9)).run Tryz.prog w=.ok (.agg (seA t.s2)) w:=by kernel_rfl
theorem part_3(t:Ses.T)(w:World):(part 30 (tbA t) (3*9)).run Tryz.prog w=.ok (.agg (seA t.s3)) w:=by kernel_rfl
theorem part_4(t:Ses.T)(w:World):(part 30 (tbA t) (4*9)).run Tryz.prog w=.ok (.agg (seA t.s4)) w:=by kernel_rfl
theorem run_teq(t:Ses.T)(w:World):(Op.equalIn 10000 31 (.agg (tbA t)) (.agg (tbA t))).run Tryz.prog w=.ok true w:=by
 obtain⟨i,hi⟩:∃i,Tryz.prog.info? 30=some i:=Option.isSome_iff_exists.1 (by kernel_rfl)
 rw[run_equalIn_array w 9999 _ _ Tryz.underlying31 hi,cells_se]
 simp only[List.range,List.range.loop,Op.eqItems,Sem.run_bind,part_0,part_1,part_2,part_3,part_4,run_seq,Result.andThen_ok,Bool.not_true,Bool.false_eq_true,if_false,Sem.run_pure]
theorem exec_tbE{w:World}{o:Oper}{a:Act}{t:Ses.T}(x y:Operand)(ho:o.op=.binOp .eql 31 x y 31)(hx:a.eval x=.agg (tbA t))(hy:a.eval y=.agg (tbA t)):
  (execOp a.eval o).run Tryz.prog w=.ok (.value (.bool true)) w:=by
 have h:=run_teq t
 unfold execOp
 simp only[ho,hx,hy]
 go_simp
end
end Go.Proofs.YtddpmlcpfmmbeaaGreat
