/- How sessions lie, and tables of five of them: blocks that hold one, loads and stores of a session, of its fields, of a place in a table; comparisons; made ones; ways out; arguments. No condition but those named. -/
import Derived.Test.YtieoeendnccafaaGreatMTK
import Derived.Test.YtieoeendnccafaaGreatMAA
import Derived.Test.YtieoeendnccafaaGreatMAI
import Derived.Test.YtieoeendnccafaaGreatMAD
import Derived.Test.YtieoeendnccafaaGreatMAG
import Derived.Test.YtieoeendnccafaaGreatMAB
import Derived.KernelRfl
import Derived.Deep.RegionWith
import Derived.Deep.RegionHeld3
import Derived.Deep.Draws
import Derived.Lib.Hide
import Derived.OpenShut
import Derived.ChangeKeysEq
set_option linter.unusedSimpArgs false
set_option linter.unusedVariables false
set_option maxRecDepth 100000
set_option maxHeartbeats 25600000
namespace Go.Proofs.YtieoeendnccafaaGreat
section
open Go.ChangeShapes Go.WideShapes Go.Deep Go.RowKit
def rfL(x:Rf):List Value:=[.int .i64 x.c,.int .i64 x.e,.int .i64 x.r]
def rfC(c e r:Int):Array Value:=#[.int .i64 c,.int .i64 e,.int .i64 r]
theorem info_rfl:(Tryz.prog.info? 35).map (fun i=>(i.zero,i.size,i.bytes))=some (some (Value.agg #[.int .i64 0,.int .i64 0,.int .i64 0]),3,24):=by kernel_rfl
theorem info_rf3:(Tryz.prog.info? 35).map (·.size)=some 3:=by kernel_rfl
def rfLay:Lay Tryz.prog Rf where
 t:=59
 e:=35
 k:=3
 bytes:=24
 z:=.agg #[.int .i64 0,.int .i64 0,.int .i64 0]
 f:=rfL
 len:=fun _=>rfl
 one:=fun x u hu=>by
  unfold rfL at hu
  simp only[List.mem_cons,List.not_mem_nil,or_false] at hu
  rcases hu with rfl|rfl|rfl<;>rfl
 und:=Tryz.underlying59
 info:=info_rfl
 zs:=rfl
 pos:=by decide
 small:=by decide
def rF(_:Rf):Prop:=True
def rv(x:Rf):Value:=.agg #[.int .i64 x.c,.int .i64 x.e,.int .i64 x.r]
section
variable {w:World}{o:Oper}{a:Act}
theorem exec_lr{b off:Nat}{x:Rf}(p:Operand)(ho:o.op=.load 35 p)(hx:a.eval p=.pointer (some ⟨b,off,none⟩))(hc:∀j v,(rfL x)[j]?=some v→w.cell? ⟨b,off+j,none⟩=some v):
  (execOp a.eval o).run Tryz.prog w=.ok (.value (.agg #[.int .i64 x.c,.int .i64 x.e,.int .i64 x.r])) w:=
 exec_slv rfLay (x:=x) p ho hx Tryz.underlying35 hc
theorem exec_lrc{b off:Nat}{x:Rf}(p:Operand)(ho:o.op=.load 3 p)(hx:a.eval p=.pointer (some ⟨b,off,none⟩))(hc:∀j v,(rfL x)[j]?=some v→w.cell? ⟨b,off+j,none⟩=some v):
  (execOp a.eval o).run Tryz.prog w=.ok (.value (.int .i64 x.c)) w:=
 exec_cell p ho hx (hc 0 _ rfl) Tryz.underlying3 rfl
theorem exec_lre{b off:Nat}{x:Rf}(p:Operand)(ho:o.op=.load 3 p)(hx:a.eval p=.pointer (some ⟨b,off+1,none⟩))(hc:∀j v,(rfL x)[j]?=some v→w.cell? ⟨b,off+j,none⟩=some v):
  (execOp a.eval o).run Tryz.prog w=.ok (.value (.int .i64 x.e)) w:=
 exec_cell p ho hx (hc 1 _ rfl) Tryz.underlying3 rfl
theorem exec_ixr{b off n c i:Nat}(x q:Operand)(ho:o.op=.indexAddr 59 x q)(hx:a.eval x=.slice (some ⟨b,off,none⟩) n c)(hq:a.eval q=.int .i64 (i:Int))(h:i<n):
  (execOp a.eval o).run Tryz.prog w=.ok (.value (.pointer (some ⟨b,off+i*3,none⟩))) w:=exec_slx rfLay x q ho hx hq h
theorem exec_srl{A:Option Addr}{n c lo:Nat}(x p:Operand)(ho:o.op=.slice 59 x (some p) none none)(hx:a.eval x=.slice A n c)(hp:a.eval p=.int .i64 (lo:Int))(h1:lo≤n):
  (execOp a.eval o).run Tryz.prog w=.ok (.value (.slice (subA 3 A lo c) (n-lo) (c-lo))) w:=exec_sls_l rfLay x p ho hx hp h1
theorem exec_srh{A:Option Addr}{n c hi:Nat}(x q:Operand)(ho:o.op=.slice 59 x none (some q) none)(hx:a.eval x=.slice A n c)(hq:a.eval q=.int .i64 (hi:Int))(h2:hi≤c):
  (execOp a.eval o).run Tryz.prog w=.ok (.value (.slice A hi c)) w:=exec_sls_h rfLay x q ho hx hq h2
theorem req_all(v u:Rf):decide (v=u)=(decide (v.c=u.c)&&decide (v.e=u.e)&&decide (v.r=u.r)):=by
 obtain⟨c,e,r⟩:=v
 obtain⟨c',e',r'⟩:=u
 rw[Bool.eq_iff_iff]
 simp[and_assoc]
theorem exec_rne{v u:Rf}{b:Bool}(p q:Operand)(ho:o.op=.binOp .neq 35 p q 35)(hx:a.eval p=.agg #[.int .i64 v.c,.int .i64 v.e,.int .i64 v.r])(hy:a.eval q=.agg #[.int .i64 u.c,.int .i64 u.e,.int .i64 u.r])(hb:(!decide (v=u))=b):
  (execOp a.eval o).run Tryz.prog w=.ok (.value (.bool b)) w:=by
 rw[req_all] at hb
 subst hb
 unfold execOp
 simp only[ho,hx,hy]
 go_simp
 by_cases h1:v.c=u.c<;>by_cases h2:v.e=u.e<;>by_cases h3:v.r=u.r<;>simp[h1,h2,h3]
end
section
variable {b0:Nat}{w0 w:World}{L:List (Nat×TypeId×Array Value)}{R:List RowE}{ops:Array Oper}{rest:List Oper}{o:Oper}{a:Act}{Q:Exit→Act→World→Prop}{K:Act→World→Prop}{E:Prop}{g:Nat}{c e r c2 e2 r2:Int}
theorem wpList_akr(HK:Hid (Kn b0 w0 w L R))(hgd:o.guard=none)(ho:o.op=.alloc 35)
  (h:∀w' g,Hid (Kn b0 w0 w' (L++[(g,35,#[.int .i64 0,.int .i64 0,.int .i64 0])]) R)→wpList Tryz.prog ops Q rest (a.put o.dst (.pointer (some ⟨g,0,none⟩))) w'):wpList Tryz.prog ops Q (o::rest) a w:=
 wpList_ak rfLay HK hgd ho h
theorem wpList_sr(HK:Hid (Kn b0 w0 w L R))(i:Nat)(hgd:o.guard=none)(p q:Operand)(ho:o.op=.store 35 p q)(hL:L[i]?=some (g,35,#[.int .i64 c,.int .i64 e,.int .i64 r]))(hx:a.eval p=.pointer (some ⟨g,0,none⟩))(hy:a.eval q=.agg #[.int .i64 c2,.int .i64 e2,.int .i64 r2])
  (h:∀w',Hid (Kn b0 w0 w' (L.set i (g,35,#[.int .i64 c2,.int .i64 e2,.int .i64 r2])) R)→wpList Tryz.prog ops Q rest (a.put o.dst undef) w'):wpList Tryz.prog ops Q (o::rest) a w:=
 wpList_st rfLay (p2:=⟨c2,e2,r2⟩) HK i hgd p q ho hL rfl hx hy h
theorem kexec_lr(HK:Hid (Kn b0 w0 w L R))(i:Nat)(x:Operand)(ho:o.op=.load 35 x)(hL:L[i]?=some (g,35,#[.int .i64 c,.int .i64 e,.int .i64 r]))(hx:a.eval x=.pointer (some ⟨g,0,none⟩)):
  (execOp a.eval o).run Tryz.prog w=.ok (.value (.agg #[.int .i64 c,.int .i64 e,.int .i64 r])) w:=
 kexec_ld rfLay (p:=⟨c,e,r⟩) Tryz.underlying35 HK i x ho hL hx
theorem kexec_lc0(HK:Hid (Kn b0 w0 w L R))(i:Nat)(x:Operand)(ho:o.op=.load 3 x)(hL:L[i]?=some (g,35,#[.int .i64 c,.int .i64 e,.int .i64 r]))(hx:a.eval x=.pointer (some ⟨g,0,none⟩)):
  (execOp a.eval o).run Tryz.prog w=.ok (.value (.int .i64 c)) w:=
 kexec_lc HK 3 x ho i hL hx (v:=.int .i64 c) rfl Tryz.underlying3 rfl
theorem kexec_lc1(HK:Hid (Kn b0 w0 w L R))(i:Nat)(x:Operand)(ho:o.op=.load 3 x)(hL:L[i]?=some (g,35,#[.int .i64 c,.int .i64 e,.int .i64 r]))(hx:a.eval x=.pointer (some ⟨g,1,none⟩)):
  (execOp a.eval o).run Tryz.prog w=.ok (.value (.int .i64 e)) w:=
 kexec_lc HK 3 x ho i hL hx (v:=.int .i64 e) rfl Tryz.underlying3 rfl
end
section
variable {fn:Func}{R:Ending→World→Prop}{a:Act}{w:World}{B:Nat}{c e r:Int}{u z y:Value}{q q2 q3 q4:Tmp}
theorem load_blk(hb:Blk w B 35 (rfC c e r)):(loadVar 35 ⟨B,0,none⟩).run Tryz.prog w=.ok (.agg #[.int .i64 c,.int .i64 e,.int .i64 r]) w:=
 run_loadVar_row (P:=Tryz.prog) w B _ _ _ (0,0) _ hb Tryz.underlying35 rfl info_rf3
theorem ret_r(hf:fn.results=#[.cell q 35])(h2:a.tmps[q]?=some (.pointer (some ⟨B,0,none⟩)))(hd:a.defers=[])(hb:Blk w B 35 (rfC c e r))
  (hR:R (.returned (.agg #[.int .i64 c,.int .i64 e,.int .i64 r])) w):bodyPost Tryz.prog fn R Exit.ret a w:=by
 refine bodyPost_ret (v:=.agg #[.int .i64 c,.int .i64 e,.int .i64 r]) ?_ hd hR
 simp[results,hf,asAddr,Sem.run_bind,h2,load_blk hb]
end
section
variable {H:Type}{enc:TypeId×Value→H}{W:World}{base:Nat}
theorem cells_rf:Tryz.prog.cellsOf 35=3:=by kernel_rfl
theorem bytes_rf:Tryz.prog.bytesOf 35=24:=by kernel_rfl
theorem opens_rf:Opens enc rfLay (fun _ _=>True):=fun W n cs x ht=>by
 obtain⟨ys,m,_,hx,hlen,hyl,hf⟩:=DataW.trod_struct Tryz.underlying35 ht
 have hlen:cs.length=Tryz.prog.cellsOf 35:=hlen
 rw[cells_rf] at hlen
 match cs,hlen,ys,hyl with
 | [v0,v1,v2],_,[y0,y1,y2],_=>
  have f0:=hf 0 _ rfl
  have f1:=hf 1 _ rfl
  have f2:=hf 2 _ rfl
  simp only[List.getElem?_cons_zero,List.getElem?_cons_succ] at f0 f1 f2
  obtain⟨a0,e0,_,_⟩:=DataW.trod_int Tryz.underlying3 f0
  obtain⟨a1,e1,_,_⟩:=DataW.trod_int Tryz.underlying3 f1
  obtain⟨a2,e2,_,_⟩:=DataW.trod_int Tryz.underlying3 f2
  cases e0;cases e1;cases e2
  exact⟨⟨a0,a1,a2⟩,rfl,trivial⟩
theorem Lift.Given.refs{ts:List TypeId}{args:List Value}{ds:List (DataW H)}{before:List MemPlace}(h:Lift.Given enc Tryz.prog (59::ts) W base args ds before):
  ∃(A:Option Addr) (c:Nat) (l:List Rf) (vs:List Value) (d:DataW H) (ds':List (DataW H)) (q:List MemPlace),args=.slice A l.length c::vs∧ds=d::ds'∧Sls rfLay rF W A l.length c l∧Lift.Given enc Tryz.prog ts W base vs ds' q:=by
 obtain⟨A,c,l,vs,d,ds',q,h1,h2,h3,h4,h5,h6,_,h8,h9⟩:=h.things (L:=rfLay) opens_rf cells_rf bytes_rf
 have hb:l.length*24≤reachBytes:=h6
 refine⟨A,c,l,vs,d,ds',q,h1,h2,⟨rfl,h8,h3,h4,fun x hx=>trivial,?_⟩,h9⟩
 have:reachBytes=140737488351232:=rfl
 show l.length*24≤_
 omega
theorem Lift.Given.ref{ts:List TypeId}{args:List Value}{ds:List (DataW H)}{before:List MemPlace}(h:Lift.Given enc Tryz.prog (35::ts) W base args ds before):
  ∃(x:Rf) (vs:List Value) (d:DataW H) (ds':List (DataW H)) (q:List MemPlace),args=.agg #[.int .i64 x.c,.int .i64 x.e,.int .i64 x.r]::vs∧ds=d::ds'∧Lift.Given enc Tryz.prog ts W base vs ds' q:=by
 obtain⟨x,vs,d,ds',q,h1,h2,_,_,h5⟩:=h.thing (L:=rfLay) opens_rf Tryz.underlying35
 exact⟨x,vs,d,ds',q,h1,h2,h5⟩
end
end
section
open Go.RowKit
theorem info_ar:(Tryz.prog.info? 248).map (·.size)=some 16:=by kernel_rfl
theorem ret_ar{fn:Func}{R:Ending→World→Prop}{a:Act}{w:World}{B:Nat}{cs:Array Value}{q:Tmp}(hf:fn.results=#[.cell q 248])(h2:a.tmps[q]?=some (.pointer (some ⟨B,0,none⟩)))(hd:a.defers=[])(hb:Blk w B 248 cs)(hs:cs.size=16)
  (hR:R (.returned (.agg cs)) w):bodyPost Tryz.prog fn R Exit.ret a w:=
 bodyPost_ret (results_cell_row hf a.tmps w B _ _ (0,0) _ (by simp[h2]) hb Tryz.underlying248 rfl (by rw[hs];exact info_ar)) hd hR
theorem blk2(w:World)(t1 t2:TypeId)(c1 c2:Array Value):Blk ((w.alloc (.cells c1 t1)).alloc (.cells c2 t2)) (w.heap.size+1) t2 c2:=by
 have h:=Blk.new (w.alloc (.cells c1 t1)) t2 c2
 rwa [World.size_alloc] at h
theorem told_any(n:Int)(s l m:Nat)(w:World):
  Calls Tryz.prog 210 #[.agg #[.int .i64 n,.int .u64 (s:Int),.int .u64 (l:Int),.int .u64 (m:Int)]] w (fun e w'=>e=.returned (.agg #[.int .i64 1,.int .i64 n,.int .u64 0,.string ⟨#[]⟩,.int .i64 2,.int .i64 0,.int .u64 (s:Int),.string ⟨#[]⟩,.int .i64 2,.int .i64 0,.int .u64 (l:Int),.string ⟨#[]⟩,.int .i64 2,.int .i64 0,.int .u64 (m:Int),.string ⟨#[]⟩])∧
   w'=(w.alloc (.cells #[.int .i64 n,.int .u64 (s:Int),.int .u64 (l:Int),.int .u64 (m:Int)] 61)).alloc (.cells #[.int .i64 1,.int .i64 n,.int .u64 0,.string ⟨#[]⟩,.int .i64 2,.int .i64 0,.int .u64 (s:Int),.string ⟨#[]⟩,.int .i64 2,.int .i64 0,.int .u64 (l:Int),.string ⟨#[]⟩,.int .i64 2,.int .i64 0,.int .u64 (m:Int),.string ⟨#[]⟩] 248)):=by
 go_enter Tryz.func210,Tryz.ntmps210
 go_wp2_with fail
 refine ret_ar (B:=w.heap.size+1) Tryz.results210 rfl rfl (blk2 _ _ _ _ _) rfl ⟨rfl,rfl⟩
end
section
open Go.ChangeShapes Go.WideShapes Go.Deep Go.RowKit
def mC(n:Int)(s l m:Nat):Array Value:=#[.int .i64 n,.int .u64 (s:Int),.int .u64 (l:Int),.int .u64 (m:Int)]
def arC(n:Int)(s l m:Nat):Array Value:=#[.int .i64 1,.int .i64 n,.int .u64 0,.string ⟨#[]⟩,.int .i64 2,.int .i64 0,.int .u64 (s:Int),.string ⟨#[]⟩,.int .i64 2,.int .i64 0,.int .u64 (l:Int),.string ⟨#[]⟩,.int .i64 2,.int .i64 0,.int .u64 (m:Int),.string ⟨#[]⟩]
def zrC:Array Value:=#[.int .i64 0,.int .i64 0,.int .u64 0,.string ⟨#[]⟩,.int .i64 0,.int .i64 0,.int .u64 0,.string ⟨#[]⟩,.int .i64 0,.int .i64 0,.int .u64 0,.string ⟨#[]⟩,.int .i64 0,.int .i64 0,.int .u64 0,.string ⟨#[]⟩]
theorem info_m4:(Tryz.prog.info? 61).map (·.size)=some 4:=by kernel_rfl
theorem told_ar(n:Int)(s l m:Nat)(w:World):
  Calls Tryz.prog 210 #[.agg #[.int .i64 n,.int .u64 (s:Int),.int .u64 (l:Int),.int .u64 (m:Int)]] w (fun e w'=>e=.returned (.agg (arC n s l m))∧Below w.heap.size w w'):=
 (told_any n s l m w).mono fun e w' ⟨h1,h2⟩=>⟨h1,by subst h2;go_grown⟩
section
variable {b0:Nat}{w0 w:World}{L:List (Nat×TypeId×Array Value)}{R:List RowE}{ops:Array Oper}{rest:List Oper}{o:Oper}{a:Act}{Q:Exit→Act→World→Prop}{K:Act→World→Prop}{E:Prop}{g:Nat}{n n2:Int}{s l m s2 l2 m2:Nat}
theorem wpList_akm(HK:Hid (Kn b0 w0 w L R))(hgd:o.guard=none)(ho:o.op=.alloc 61)
  (h:∀w' g,Hid (Kn b0 w0 w' (L++[(g,61,mC 0 0 0 0)]) R)→wpList Tryz.prog ops Q rest (a.put o.dst (.pointer (some ⟨g,0,none⟩))) w'):wpList Tryz.prog ops Q (o::rest) a w:=
 wpList_plain hgd fun K hK=>by
  have h4:=h _ w.heap.size (zH (HK.out.alloc _ _))
  unfold Oper.wp execOp
  simp only[ho]
  unfold mC at h4
  go_simp
  exact hK _ _ h4
theorem wpList_aka(HK:Hid (Kn b0 w0 w L R))(hgd:o.guard=none)(ho:o.op=.alloc 248)
  (h:∀w' g,Hid (Kn b0 w0 w' (L++[(g,248,zrC)]) R)→wpList Tryz.prog ops Q rest (a.put o.dst (.pointer (some ⟨g,0,none⟩))) w'):wpList Tryz.prog ops Q (o::rest) a w:=
 wpList_plain hgd fun K hK=>by
  have h4:=h _ w.heap.size (zH (HK.out.alloc _ _))
  unfold Oper.wp execOp
  simp only[ho]
  unfold zrC at h4
  go_simp
  exact hK _ _ h4
theorem kwp_sm(HK:Hid (Kn b0 w0 w L R))(i:Nat)(p q:Operand)(ho:o.op=.store 61 p q)(hL:L[i]?=some (g,61,mC n s l m))(hx:a.eval p=.pointer (some ⟨g,0,none⟩))(hy:a.eval q=.agg #[.int .i64 n2,.int .u64 (s2:Int),.int .u64 (l2:Int),.int .u64 (m2:Int)])
  (h:∀w',Hid (Kn b0 w0 w' (L.set i (g,61,mC n2 s2 l2 m2)) R)→K (a.put o.dst undef) w'):o.wp Tryz.prog a w K Q:=
 kwp_ss HK _ p q ho i hL hx hy (by show 4≤4;decide) info_m4 (by simp[Value.oneCell']) fun w' h1 _=>h w' (by
  have e:putCells (mC n s l m) 0 (#[Value.int .i64 n2,.int .u64 (s2:Int),.int .u64 (l2:Int),.int .u64 (m2:Int)]:Array Value).toList=mC n2 s2 l2 m2:=by
   show putCells (mC n s l m) 0 (mC n2 s2 l2 m2).toList=mC n2 s2 l2 m2
   rw[putCells_all (vs:=(mC n2 s2 l2 m2).toList) (cs:=mC n s l m) rfl,Array.toArray_toList]
  rw[e] at h1
  exact h1)
theorem wpList_sm(HK:Hid (Kn b0 w0 w L R))(i:Nat)(hgd:o.guard=none)(p q:Operand)(ho:o.op=.store 61 p q)(hL:L[i]?=some (g,61,mC n s l m))(hx:a.eval p=.pointer (some ⟨g,0,none⟩))(hy:a.eval q=.agg #[.int .i64 n2,.int .u64 (s2:Int),.int .u64 (l2:Int),.int .u64 (m2:Int)])
  (h:∀w',Hid (Kn b0 w0 w' (L.set i (g,61,mC n2 s2 l2 m2)) R)→wpList Tryz.prog ops Q rest (a.put o.dst undef) w'):wpList Tryz.prog ops Q (o::rest) a w:=
 wpList_plain hgd fun _ hK=>kwp_sm HK i p q ho hL hx hy fun w' h1=>hK _ _ (h w' h1)
theorem wpList_sa(HK:Hid (Kn b0 w0 w L R))(i:Nat)(hgd:o.guard=none)(p q:Operand)(ho:o.op=.store 248 p q)(hL:L[i]?=some (g,248,zrC))(hx:a.eval p=.pointer (some ⟨g,0,none⟩))(hy:a.eval q=.agg (arC n s l m))
  (h:∀w',Hid (Kn b0 w0 w' (L.set i (g,248,arC n s l m)) R)→wpList Tryz.prog ops Q rest (a.put o.dst undef) w'):wpList Tryz.prog ops Q (o::rest) a w:=
 wpList_ss HK i hgd _ p q ho hL hx hy (by show 16≤16;decide) info_ar (by simp[arC,Value.oneCell']) fun w' h1 _=>h w' (by
  have e:putCells zrC 0 (arC n s l m).toList=arC n s l m:=by
   rw[putCells_all (vs:=(arC n s l m).toList) (cs:=zrC) rfl,Array.toArray_toList]
  rw[e] at h1
  exact h1)
theorem kexec_lm(HK:Hid (Kn b0 w0 w L R))(i:Nat)(x:Operand)(ho:o.op=.load 61 x)(hL:L[i]?=some (g,61,mC n s l m))(hx:a.eval x=.pointer (some ⟨g,0,none⟩)):
  (execOp a.eval o).run Tryz.prog w=.ok (.value (.agg #[.int .i64 n,.int .u64 (s:Int),.int .u64 (l:Int),.int .u64 (m:Int)])) w:=
 kexec_ls HK _ x ho i hL hx (mC n s l m) (fun j _=>by rw[Nat.zero_add]) Tryz.underlying61 info_m4
theorem kexec_mn(HK:Hid (Kn b0 w0 w L R))(i:Nat)(x:Operand)(ho:o.op=.load 3 x)(hL:L[i]?=some (g,61,mC n s l m))(hx:a.eval x=.pointer (some ⟨g,0,none⟩)):
  (execOp a.eval o).run Tryz.prog w=.ok (.value (.int .i64 n)) w:=
 kexec_lc HK 3 x ho i hL hx (v:=.int .i64 n) rfl Tryz.underlying3 rfl
theorem kexec_ms(HK:Hid (Kn b0 w0 w L R))(i:Nat)(x:Operand)(ho:o.op=.load 24 x)(hL:L[i]?=some (g,61,mC n s l m))(hx:a.eval x=.pointer (some ⟨g,1,none⟩)):
  (execOp a.eval o).run Tryz.prog w=.ok (.value (.int .u64 (s:Int))) w:=
 kexec_lc HK 24 x ho i hL hx (v:=.int .u64 (s:Int)) rfl Tryz.underlying24 rfl
theorem kexec_ml(HK:Hid (Kn b0 w0 w L R))(i:Nat)(x:Operand)(ho:o.op=.load 24 x)(hL:L[i]?=some (g,61,mC n s l m))(hx:a.eval x=.pointer (some ⟨g,2,none⟩)):
  (execOp a.eval o).run Tryz.prog w=.ok (.value (.int .u64 (l:Int))) w:=
 kexec_lc HK 24 x ho i hL hx (v:=.int .u64 (l:Int)) rfl Tryz.underlying24 rfl
theorem kexec_mm(HK:Hid (Kn b0 w0 w L R))(i:Nat)(x:Operand)(ho:o.op=.load 24 x)(hL:L[i]?=some (g,61,mC n s l m))(hx:a.eval x=.pointer (some ⟨g,3,none⟩)):
  (execOp a.eval o).run Tryz.prog w=.ok (.value (.int .u64 (m:Int))) w:=
 kexec_lc HK 24 x ho i hL hx (v:=.int .u64 (m:Int)) rfl Tryz.underlying24 rfl
theorem kexec_a1(HK:Hid (Kn b0 w0 w L R))(i:Nat)(x:Operand)(ho:o.op=.load 26 x)(hL:L[i]?=some (g,248,arC n s l m))(hx:a.eval x=.pointer (some ⟨g,4,none⟩)):
  (execOp a.eval o).run Tryz.prog w=.ok (.value (.agg #[.int .i64 2,.int .i64 0,.int .u64 (s:Int),.string ⟨#[]⟩])) w:=
 kexec_ls HK _ x ho i hL hx #[.int .i64 2,.int .i64 0,.int .u64 (s:Int),.string ⟨#[]⟩] (fun j hj=>by
  match j,hj with
  | 0,_=>rfl
  | 1,_=>rfl
  | 2,_=>rfl
  | 3,_=>rfl) Tryz.underlying26 info_v4
theorem kexec_a2(HK:Hid (Kn b0 w0 w L R))(i:Nat)(x:Operand)(ho:o.op=.load 26 x)(hL:L[i]?=some (g,248,arC n s l m))(hx:a.eval x=.pointer (some ⟨g,8,none⟩)):
  (execOp a.eval o).run Tryz.prog w=.ok (.value (.agg #[.int .i64 2,.int .i64 0,.int .u64 (l:Int),.string ⟨#[]⟩])) w:=
 kexec_ls HK _ x ho i hL hx #[.int .i64 2,.int .i64 0,.int .u64 (l:Int),.string ⟨#[]⟩] (fun j hj=>by
  match j,hj with
  | 0,_=>rfl
  | 1,_=>rfl
  | 2,_=>rfl
  | 3,_=>rfl) Tryz.underlying26 info_v4
theorem kexec_a3(HK:Hid (Kn b0 w0 w L R))(i:Nat)(x:Operand)(ho:o.op=.load 26 x)(hL:L[i]?=some (g,248,arC n s l m))(hx:a.eval x=.pointer (some ⟨g,12,none⟩)):
  (execOp a.eval o).run Tryz.prog w=.ok (.value (.agg #[.int .i64 2,.int .i64 0,.int .u64 (m:Int),.string ⟨#[]⟩])) w:=
 kexec_ls HK _ x ho i hL hx #[.int .i64 2,.int .i64 0,.int .u64 (m:Int),.string ⟨#[]⟩] (fun j hj=>by
  match j,hj with
  | 0,_=>rfl
  | 1,_=>rfl
  | 2,_=>rfl
  | 3,_=>rfl) Tryz.underlying26 info_v4
theorem kexec_vf{k:Int}{f:Nat}{t:ByteArray}(HK:Hid (Kn b0 w0 w L R))(i:Nat)(x:Operand)(ho:o.op=.load 24 x)(hL:L[i]?=some (g,26,vC k n f t))(hx:a.eval x=.pointer (some ⟨g,2,none⟩)):
  (execOp a.eval o).run Tryz.prog w=.ok (.value (.int .u64 (f:Int))) w:=
 kexec_lc HK 24 x ho i hL hx (v:=.int .u64 (f:Int)) rfl Tryz.underlying24 rfl
theorem exec_ueq{x y:Nat}{b:Bool}(p q:Operand)(ho:o.op=.binOp .eql 24 p q 24)(hp:a.eval p=.int .u64 (x:Int))(hq:a.eval q=.int .u64 (y:Int))(hb:decide (x=y)=b):
  (execOp a.eval o).run Tryz.prog w=.ok (.value (.bool b)) w:=by
 have e:((x:Int)==(y:Int))=b:=by
  rw[← hb,Bool.eq_iff_iff,beq_iff_eq,decide_eq_true_eq];omega
 unfold execOp
 simp only[ho,hp,hq]
 go_simp
theorem meq_all(x y:Mtr):decide (x=y)=(decide (x.n=y.n)&&decide ((x.s:Int)=(y.s:Int))&&decide ((x.l:Int)=(y.l:Int))&&decide ((x.m:Int)=(y.m:Int))):=by
 obtain⟨n,s,l,m⟩:=x
 obtain⟨n',s',l',m'⟩:=y
 rw[Bool.eq_iff_iff]
 simp only[decide_eq_true_eq,Bool.and_eq_true,Mtr.mk.injEq,Int.natCast_inj,and_assoc]
theorem exec_meq{x y:Mtr}{b:Bool}(p q:Operand)(ho:o.op=.binOp .eql 61 p q 61)(hx:a.eval p=.agg #[.int .i64 x.n,.int .u64 (x.s:Int),.int .u64 (x.l:Int),.int .u64 (x.m:Int)])(hy:a.eval q=.agg #[.int .i64 y.n,.int .u64 (y.s:Int),.int .u64 (y.l:Int),.int .u64 (y.m:Int)])(hb:decide (x=y)=b):
  (execOp a.eval o).run Tryz.prog w=.ok (.value (.bool b)) w:=by
 rw[meq_all] at hb
 subst hb
 unfold execOp
 simp only[ho,hx,hy]
 go_simp
 by_cases h1:x.n=y.n<;>by_cases h2:(x.s:Int)=(y.s:Int)<;>by_cases h3:(x.l:Int)=(y.l:Int)<;>by_cases h4:(x.m:Int)=(y.m:Int)<;>simp[h1,h2,h3,h4]
end
theorem ueq_self(x:Nat):decide (x=x)=true:=decide_eq_true rfl
def mL(x:Mtr):List Value:=[.int .i64 x.n,.int .u64 (x.s:Int),.int .u64 (x.l:Int),.int .u64 (x.m:Int)]
section
variable {H:Type}{enc:TypeId×Value→H}{W:World}{base:Nat}
theorem cells_mt:Tryz.prog.cellsOf 61=4:=by kernel_rfl
theorem opens_mt:OpensT enc 61 mL Mt.Fit:=fun W n cs x ht=>by
 obtain⟨ys,m,_,hx,hlen,hyl,hf⟩:=DataW.trod_struct Tryz.underlying61 ht
 have hlen:cs.length=Tryz.prog.cellsOf 61:=hlen
 rw[cells_mt] at hlen
 match cs,hlen,ys,hyl with
 | [v0,v1,v2,v3],_,[y0,y1,y2,y3],_=>
  have f0:=hf 0 _ rfl
  have f1:=hf 1 _ rfl
  have f2:=hf 2 _ rfl
  have f3:=hf 3 _ rfl
  simp only[List.getElem?_cons_zero,List.getElem?_cons_succ] at f0 f1 f2 f3
  obtain⟨a0,e0,_,w0⟩:=DataW.trod_int Tryz.underlying3 f0
  obtain⟨a1,e1,_,w1⟩:=DataW.trod_int Tryz.underlying24 f1
  obtain⟨a2,e2,_,w2⟩:=DataW.trod_int Tryz.underlying24 f2
  obtain⟨a3,e3,_,w3⟩:=DataW.trod_int Tryz.underlying24 f3
  cases e0;cases e1;cases e2;cases e3
  obtain⟨u1,rfl,hu1⟩:=u64_lt w1
  obtain⟨u2,rfl,hu2⟩:=u64_lt w2
  obtain⟨u3,rfl,hu3⟩:=u64_lt w3
  exact⟨⟨a0,u1,u2,u3⟩,rfl,by have:=bounds_i64 w0;show a0≤_;omega,hu1,hu2,hu3⟩
end
end
section
open Go.RowKit
structure Oh where
 v:Sto.Ob
 pA:Option Addr
 pn:Nat
 pc:Nat
 vA:Option Addr
 vn:Nat
 vc:Nat
 rA:Option Addr
 rn:Nat
 rc:Nat
def obL(x:Oh):List Value:=[.string x.v.name,.int .i64 x.v.kind,.int .i64 x.v.cap,.slice x.pA x.pn x.pc,.slice x.vA x.vn x.vc,.slice x.rA x.rn x.rc,.int .i64 x.v.round,.int .i64 x.v.mt.n,.int .u64 (x.v.mt.s:Int),.int .u64 (x.v.mt.l:Int),.int .u64 (x.v.mt.m:Int)]
def obA(x:Oh):Array Value:=#[.string x.v.name,.int .i64 x.v.kind,.int .i64 x.v.cap,.slice x.pA x.pn x.pc,.slice x.vA x.vn x.vc,.slice x.rA x.rn x.rc,.int .i64 x.v.round,.int .i64 x.v.mt.n,.int .u64 (x.v.mt.s:Int),.int .u64 (x.v.mt.l:Int),.int .u64 (x.v.mt.m:Int)]
def ohZ:Oh:=⟨⟨⟨#[]⟩,0,0,[],[],[],0,Mt.zero⟩,none,0,0,none,0,0,none,0,0⟩
theorem info_obl:(Tryz.prog.info? 63).map (fun i=>(i.zero,i.size,i.bytes))=some (some (Value.agg (obA ohZ)),11,144):=by kernel_rfl
theorem info_ob:(Tryz.prog.info? 63).map (·.size)=some 11:=by kernel_rfl
def obLay:Lay Tryz.prog Oh where
 t:=22
 e:=63
 k:=11
 bytes:=144
 z:=.agg (obA ohZ)
 f:=obL
 len:=fun _=>rfl
 one:=fun x u hu=>by
  unfold obL at hu
  simp only[List.mem_cons,List.not_mem_nil,or_false] at hu
  rcases hu with rfl|rfl|rfl|rfl|rfl|rfl|rfl|rfl|rfl|rfl|rfl<;>rfl
 und:=Tryz.underlying22
 info:=info_obl
 zs:=rfl
 pos:=by decide
 small:=by decide
def oF(_:Oh):Prop:=True
structure In(w:World)(x:Oh):Prop where
 p:Sl w x.pA x.pn x.pc x.v.prs
 v:Sls vaLay vF w x.vA x.vn x.vc x.v.vals
 r:Sls rfLay rF w x.rA x.rn x.rc x.v.refs
 m:Mt.Fit x.v.mt
 d:x.v.round≤9223372036854775807
theorem In.later{w w':World}{x:Oh}(h:In w x)(hb:Below w.heap.size w w'):In w' x:=⟨h.p.later hb,h.v.later hb,h.r.later hb,h.m,h.d⟩
structure Obs(w:World)(A:Option Addr)(n c:Nat)(l:List Oh):Prop where
 s:Sls obLay oF w A n c l
 i:∀x∈l,In w x
def vs(l:List Oh):List Sto.Ob:=l.map (·.v)
theorem vs_len(l:List Oh):(vs l).length=l.length:=List.length_map ..
theorem vs_get{l:List Oh}{i:Nat}{x:Oh}(h:l[i]?=some x):(vs l)[i]?=some x.v:=by
 unfold vs
 rw[List.getElem?_map,h];rfl
theorem Obs.later{w w':World}{A:Option Addr}{n c:Nat}{l:List Oh}(h:Obs w A n c l)(hb:Below w.heap.size w w'):Obs w' A n c l:=⟨h.s.later hb,fun x hx=>(h.i x hx).later hb⟩
theorem Obs.none(w:World):Obs w none 0 0 []:=⟨Sls.none w,fun x hx=>by simp at hx⟩
theorem Obs.len{w:World}{A:Option Addr}{n c:Nat}{l:List Oh}(h:Obs w A n c l):l.length=n:=h.s.len
theorem Obs.take{w:World}{A:Option Addr}{n c:Nat}{l:List Oh}(h:Obs w A n c l){hi:Nat}(h2:hi≤n):Obs w A hi c (l.take hi):=⟨h.s.take h2,fun x hx=>h.i x (List.mem_of_mem_take hx)⟩
theorem Obs.drop{w:World}{A:Option Addr}{n c:Nat}{l:List Oh}(h:Obs w A n c l){lo:Nat}(h2:lo≤n):Obs w (subA 11 A lo c) (n-lo) (c-lo) (l.drop lo):=⟨h.s.drop h2,fun x hx=>h.i x (List.mem_of_mem_drop hx)⟩
theorem Obs.sub{w:World}{A:Option Addr}{n c:Nat}{l:List Oh}(h:Obs w A n c l){lo hi:Nat}(h1:lo≤hi)(h2:hi≤n):Obs w (subA 11 A lo c) (hi-lo) (c-lo) ((l.drop lo).take (hi-lo)):=⟨h.s.sub h1 h2,fun x hx=>h.i x (List.mem_of_mem_drop (List.mem_of_mem_take hx))⟩
theorem Obs.get{w:World}{A:Option Addr}{n c:Nat}{l:List Oh}(h:Obs w A n c l){k:Nat}(hk:k<n):∃x,l[k]?=some x∧In w x:=by
 obtain⟨x,hx,_⟩:=h.s.get hk
 exact⟨x,hx,h.i x (List.mem_of_getElem? hx)⟩
def Oh.sp(x:Oh)(A:Option Addr)(n c:Nat)(l:List Dct.Pr):Oh:=⟨{ x.v with prs:=l },A,n,c,x.vA,x.vn,x.vc,x.rA,x.rn,x.rc⟩
def Oh.sv(x:Oh)(A:Option Addr)(n c:Nat)(l:List Val.V):Oh:=⟨{ x.v with vals:=l },x.pA,x.pn,x.pc,A,n,c,x.rA,x.rn,x.rc⟩
def Oh.sr(x:Oh)(A:Option Addr)(n c:Nat)(l:List Rf):Oh:=⟨{ x.v with refs:=l },x.pA,x.pn,x.pc,x.vA,x.vn,x.vc,A,n,c⟩
def Oh.sm(x:Oh)(m:Mtr):Oh:=⟨{ x.v with mt:=m },x.pA,x.pn,x.pc,x.vA,x.vn,x.vc,x.rA,x.rn,x.rc⟩
section
variable {w:World}{x:Oh}{A:Option Addr}{n c:Nat}
theorem In.sp(h:In w x){l:List Dct.Pr}(hs:Sl w A n c l):In w (x.sp A n c l):=⟨hs,h.v,h.r,h.m,h.d⟩
theorem In.sv(h:In w x){l:List Val.V}(hs:Sls vaLay vF w A n c l):In w (x.sv A n c l):=⟨h.p,hs,h.r,h.m,h.d⟩
theorem In.sr(h:In w x){l:List Rf}(hs:Sls rfLay rF w A n c l):In w (x.sr A n c l):=⟨h.p,h.v,hs,h.m,h.d⟩
theorem In.sm(h:In w x){m:Mtr}(hm:Mt.Fit m):In w (x.sm m):=⟨h.p,h.v,h.r,hm,h.d⟩
end
theorem info_pr1:(Tryz.prog.info? 57).map (·.size)=some 1:=by kernel_rfl
theorem info_va1:(Tryz.prog.info? 58).map (·.size)=some 1:=by kernel_rfl
theorem info_rf1:(Tryz.prog.info? 59).map (·.size)=some 1:=by kernel_rfl
section
variable {b0:Nat}{w0 w:World}{L:List (Nat×TypeId×Array Value)}{R:List RowE}{ops:Array Oper}{rest:List Oper}{o:Oper}{a:Act}{Q:Exit→Act→World→Prop}{K:Act→World→Prop}{E:Prop}{g:Nat}{x y:Oh}
theorem kob(HK:Hid (Kn b0 w0 w L R))(i:Nat)(p:Operand)(ho:o.op=.load 63 p)(hL:L[i]?=some (g,63,obA x))(hx:a.eval p=.pointer (some ⟨g,0,none⟩)):
  (execOp a.eval o).run Tryz.prog w=.ok (.value (.agg (obA x))) w:=
 kexec_ls HK _ p ho i hL hx (obA x) (fun j _=>by rw[Nat.zero_add]) Tryz.underlying63 info_ob
theorem kob_n(HK:Hid (Kn b0 w0 w L R))(i:Nat)(p:Operand)(ho:o.op=.load 9 p)(hL:L[i]?=some (g,63,obA x))(hx:a.eval p=.pointer (some ⟨g,0,none⟩)):
  (execOp a.eval o).run Tryz.prog w=.ok (.value (.string x.v.name)) w:=kexec_lc HK _ p ho i hL hx rfl Tryz.underlying9 rfl
theorem kob_k(HK:Hid (Kn b0 w0 w L R))(i:Nat)(p:Operand)(ho:o.op=.load 3 p)(hL:L[i]?=some (g,63,obA x))(hx:a.eval p=.pointer (some ⟨g,1,none⟩)):
  (execOp a.eval o).run Tryz.prog w=.ok (.value (.int .i64 x.v.kind)) w:=kexec_lc HK _ p ho i hL hx rfl Tryz.underlying3 rfl
theorem kob_c(HK:Hid (Kn b0 w0 w L R))(i:Nat)(p:Operand)(ho:o.op=.load 3 p)(hL:L[i]?=some (g,63,obA x))(hx:a.eval p=.pointer (some ⟨g,2,none⟩)):
  (execOp a.eval o).run Tryz.prog w=.ok (.value (.int .i64 x.v.cap)) w:=kexec_lc HK _ p ho i hL hx rfl Tryz.underlying3 rfl
theorem kob_p(HK:Hid (Kn b0 w0 w L R))(i:Nat)(p:Operand)(ho:o.op=.load 57 p)(hL:L[i]?=some (g,63,obA x))(hx:a.eval p=.pointer (some ⟨g,3,none⟩)):
  (execOp a.eval o).run Tryz.prog w=.ok (.value (.slice x.pA x.pn x.pc)) w:=kexec_lc HK _ p ho i hL hx rfl Tryz.underlying57 rfl
theorem kob_v(HK:Hid (Kn b0 w0 w L R))(i:Nat)(p:Operand)(ho:o.op=.load 58 p)(hL:L[i]?=some (g,63,obA x))(hx:a.eval p=.pointer (some ⟨g,4,none⟩)):
  (execOp a.eval o).run Tryz.prog w=.ok (.value (.slice x.vA x.vn x.vc)) w:=kexec_lc HK _ p ho i hL hx rfl Tryz.underlying58 rfl
theorem kob_r(HK:Hid (Kn b0 w0 w L R))(i:Nat)(p:Operand)(ho:o.op=.load 59 p)(hL:L[i]?=some (g,63,obA x))(hx:a.eval p=.pointer (some ⟨g,5,none⟩)):
  (execOp a.eval o).run Tryz.prog w=.ok (.value (.slice x.rA x.rn x.rc)) w:=kexec_lc HK _ p ho i hL hx rfl Tryz.underlying59 rfl
theorem kob_d(HK:Hid (Kn b0 w0 w L R))(i:Nat)(p:Operand)(ho:o.op=.load 3 p)(hL:L[i]?=some (g,63,obA x))(hx:a.eval p=.pointer (some ⟨g,6,none⟩)):
  (execOp a.eval o).run Tryz.prog w=.ok (.value (.int .i64 x.v.round)) w:=kexec_lc HK _ p ho i hL hx rfl Tryz.underlying3 rfl
theorem kob_m(HK:Hid (Kn b0 w0 w L R))(i:Nat)(p:Operand)(ho:o.op=.load 61 p)(hL:L[i]?=some (g,63,obA x))(hx:a.eval p=.pointer (some ⟨g,7,none⟩)):
  (execOp a.eval o).run Tryz.prog w=.ok (.value (.agg #[.int .i64 x.v.mt.n,.int .u64 (x.v.mt.s:Int),.int .u64 (x.v.mt.l:Int),.int .u64 (x.v.mt.m:Int)])) w:=
 kexec_ls HK _ p ho i hL hx #[.int .i64 x.v.mt.n,.int .u64 (x.v.mt.s:Int),.int .u64 (x.v.mt.l:Int),.int .u64 (x.v.mt.m:Int)] (fun j hj=>by
  match j,hj with
  | 0,_|1,_|2,_|3,_=>rfl) Tryz.underlying61 info_m4
theorem wpList_aob(HK:Hid (Kn b0 w0 w L R))(hgd:o.guard=none)(ho:o.op=.alloc 63)
  (h:∀w' g,Hid (Kn b0 w0 w' (L++[(g,63,obA ohZ)]) R)→wpList Tryz.prog ops Q rest (a.put o.dst (.pointer (some ⟨g,0,none⟩))) w'):wpList Tryz.prog ops Q (o::rest) a w:=
 wpList_ak obLay HK hgd ho h
theorem wpList_sob(HK:Hid (Kn b0 w0 w L R))(i:Nat)(hgd:o.guard=none)(p q:Operand)(ho:o.op=.store 63 p q)(hL:L[i]?=some (g,63,obA x))(hx:a.eval p=.pointer (some ⟨g,0,none⟩))(hy:a.eval q=.agg (obA y))
  (h:∀w',Hid (Kn b0 w0 w' (L.set i (g,63,obA y)) R)→wpList Tryz.prog ops Q rest (a.put o.dst undef) w'):wpList Tryz.prog ops Q (o::rest) a w:=
 wpList_st obLay (p2:=y) HK i hgd p q ho hL rfl hx hy h
theorem wpList_som(HK:Hid (Kn b0 w0 w L R))(i:Nat)(hgd:o.guard=none)(p q:Operand)(ho:o.op=.store 61 p q)(hL:L[i]?=some (g,63,obA x))(hx:a.eval p=.pointer (some ⟨g,7,none⟩)){m:Mtr}(hy:a.eval q=.agg #[.int .i64 m.n,.int .u64 (m.s:Int),.int .u64 (m.l:Int),.int .u64 (m.m:Int)])
  (h:∀w',Hid (Kn b0 w0 w' (L.set i (g,63,obA (x.sm m))) R)→wpList Tryz.prog ops Q rest (a.put o.dst undef) w'):wpList Tryz.prog ops Q (o::rest) a w:=
 wpList_ss HK i hgd _ p q ho hL hx hy (by show 7+4≤11;decide) info_m4 (by simp[Value.oneCell']) fun w' h1 _=>h w' (by
  have e:putCells (obA x) 7 (#[Value.int .i64 m.n,.int .u64 (m.s:Int),.int .u64 (m.l:Int),.int .u64 (m.m:Int)]:Array Value).toList=obA (x.sm m):=rfl
  rw[e] at h1
  exact h1)
end
section
variable {w:World}{o:Oper}{a:Act}{x:Oh}
theorem exec_obx{b off:Nat}(p:Operand)(ho:o.op=.load 63 p)(hx:a.eval p=.pointer (some ⟨b,off,none⟩))(hc:∀j v,(obL x)[j]?=some v→w.cell? ⟨b,off+j,none⟩=some v):
  (execOp a.eval o).run Tryz.prog w=.ok (.value (.agg (obA x))) w:=exec_slv obLay (x:=x) p ho hx Tryz.underlying63 hc
theorem exec_obn{b off:Nat}(p:Operand)(ho:o.op=.load 9 p)(hx:a.eval p=.pointer (some ⟨b,off,none⟩))(hc:∀j v,(obL x)[j]?=some v→w.cell? ⟨b,off+j,none⟩=some v):
  (execOp a.eval o).run Tryz.prog w=.ok (.value (.string x.v.name)) w:=exec_cell p ho hx (hc 0 _ rfl) Tryz.underlying9 rfl
theorem exec_ixo{b off n c i:Nat}(q r:Operand)(ho:o.op=.indexAddr 22 q r)(hx:a.eval q=.slice (some ⟨b,off,none⟩) n c)(hq:a.eval r=.int .i64 (i:Int))(h:i<n):
  (execOp a.eval o).run Tryz.prog w=.ok (.value (.pointer (some ⟨b,off+i*11,none⟩))) w:=exec_slx obLay q r ho hx hq h
end
end
section
open Go.ChangeShapes Go.WideShapes Go.Deep Go.RowKit
def seA(s:Ses.S):Array Value:=#[.bool s.live,.int .i64 s.ep,.int .i64 s.rq,.bool s.dn,.int .i64 s.p.e,.int .i64 s.p.v.k,.int .i64 s.p.v.n,.int .u64 (s.p.v.f:Int),.string s.p.v.s]
def tbA(t:Ses.T):Array Value:=#[.bool t.s0.live,.int .i64 t.s0.ep,.int .i64 t.s0.rq,.bool t.s0.dn,.int .i64 t.s0.p.e,.int .i64 t.s0.p.v.k,.int .i64 t.s0.p.v.n,.int .u64 (t.s0.p.v.f:Int),.string t.s0.p.v.s,.bool t.s1.live,.int .i64 t.s1.ep,.int .i64 t.s1.rq,.bool t.s1.dn,.int .i64 t.s1.p.e,.int .i64 t.s1.p.v.k,.int .i64 t.s1.p.v.n,.int .u64 (t.s1.p.v.f:Int),.string t.s1.p.v.s,.bool t.s2.live,.int .i64 t.s2.ep,.int .i64 t.s2.rq,.bool t.s2.dn,.int .i64 t.s2.p.e,.int .i64 t.s2.p.v.k,.int .i64 t.s2.p.v.n,.int .u64 (t.s2.p.v.f:Int),.string t.s2.p.v.s,.bool t.s3.live,.int .i64 t.s3.ep,.int .i64 t.s3.rq,.bool t.s3.dn,.int .i64 t.s3.p.e,.int .i64 t.s3.p.v.k,.int .i64 t.s3.p.v.n,.int .u64 (t.s3.p.v.f:Int),.string t.s3.p.v.s,.bool t.s4.live,.int .i64 t.s4.ep,.int .i64 t.s4.rq,.bool t.s4.dn,.int .i64 t.s4.p.e,.int .i64 t.s4.p.v.k,.int .i64 t.s4.p.v.n,.int .u64 (t.s4.p.v.f:Int),.string t.s4.p.v.s]
def tz:Ses.T:=⟨Ses.z,Ses.z,Ses.z,Ses.z,Ses.z⟩
theorem info_sez:(Tryz.prog.info? 30).map (fun i=>(i.zero,i.size,i.bytes))=some (some (Value.agg (seA Ses.z)),9,80):=by kernel_rfl
theorem info_se:(Tryz.prog.info? 30).map (·.size)=some 9:=by kernel_rfl
theorem info_tb:(Tryz.prog.info? 31).map (·.size)=some 45:=by kernel_rfl
theorem tb_at{c:Int}(h:0≤c∧c<5)(t:Ses.T)(j:Nat)(hj:j<9):(tbA t)[c.toNat*9+j]?=(seA (t.get c))[j]?:=by
 rcases Ses.cases5 h with rfl|rfl|rfl|rfl|rfl
 ·match j,hj with
  | 0,_|1,_|2,_|3,_|4,_|5,_|6,_|7,_|8,_=>rfl
 ·match j,hj with
  | 0,_|1,_|2,_|3,_|4,_|5,_|6,_|7,_|8,_=>rfl
 ·match j,hj with
  | 0,_|1,_|2,_|3,_|4,_|5,_|6,_|7,_|8,_=>rfl
 ·match j,hj with
  | 0,_|1,_|2,_|3,_|4,_|5,_|6,_|7,_|8,_=>rfl
 ·match j,hj with
  | 0,_|1,_|2,_|3,_|4,_|5,_|6,_|7,_|8,_=>rfl
theorem run_made{P:Program}{e:TypeId}{z:Value}{k b:Nat}(hi:(P.info? e).map (fun i=>(i.zero,i.size,i.bytes))=some (some z,k,b))(w:World):(Instr.alloc e true (.tuple #[])).run P w=.ok (.pointer (some ⟨w.heap.size,0,none⟩)) (w.alloc (.cells z.cells e)):=by
 obtain⟨i0,hi,hz0,hz1,hz2⟩:=info_parts hi
 simp[Instr.alloc,zeroValue,typeInfo,hi,hz0,newVar,newRow]
section
variable {b0:Nat}{w0 w:World}{L:List (Nat×TypeId×Array Value)}{R:List RowE}{ops:Array Oper}{rest:List Oper}{o:Oper}{a:Act}{Q:Exit→Act→World→Prop}{K:Act→World→Prop}{E:Prop}{g:Nat}{s u:Ses.S}{t t2:Ses.T}{p q:Sto.Rp}{c:Int}
theorem kwp_made{e:TypeId}{z:Value}{k b:Nat}(hi:(Tryz.prog.info? e).map (fun i=>(i.zero,i.size,i.bytes))=some (some z,k,b))(HK:Hid (Kn b0 w0 w L R))(ho:o.op=.alloc e)
  (h:∀w' g,Hid (Kn b0 w0 w' (L++[(g,e,z.cells)]) R)→Hid (Below w.heap.size w w')→K (a.put o.dst (.pointer (some ⟨g,0,none⟩))) w'):o.wp Tryz.prog a w K Q:=by
 have h4:=h _ w.heap.size (zH (HK.out.alloc e z.cells)) (zH ((Below.refl _ w).alloc (Nat.le_refl _) _))
 unfold Oper.wp execOp
 simp only[ho,Sem.run_bind,Sem.run_pure,run_made hi,Result.andThen_ok]
 exact h4
theorem kexec_lw(HK:Hid (Kn b0 w0 w L R))(ty:TypeId)(x:Operand)(ho:o.op=.load ty x)(i:Nat){off:Nat}{e:TypeId}{cs:Array Value}(hL:L[i]?=some (g,e,cs))(hx:a.eval x=.pointer (some ⟨g,off,none⟩))
  (vs:Array Value) (hv:∀j,j<vs.size→cs[off+j]?=vs[j]?) {d:TypeDesc} (hu:Tryz.prog.underlying ty=some d) (hd:d.isRow=true) (hi:(Tryz.prog.info? ty).map (·.size)=some vs.size) :
  (execOp a.eval o).run Tryz.prog w=.ok (.value (.agg vs)) w:=by
 have hc:w.rangeAt g off vs.toList:=fun j v hj=>by
  rw[Array.getElem?_toList] at hj
  exact HK.out.cell i hL (off+j) ((hv j (Array.getElem?_eq_some_iff.1 hj).1).trans hj)
 have h:=run_loadVar_mid (P:=Tryz.prog) w g off ty vs.toList _ hc hu hd (by simpa using hi)
 unfold execOp
 simp only[ho,hx,Instr.loadAt,Instr.sureAddr,Sem.run_bind,Sem.run_pure,Result.andThen_ok,h,Array.toArray_toList]
theorem wpList_ase(HK:Hid (Kn b0 w0 w L R))(hgd:o.guard=none)(ho:o.op=.alloc 30)
  (h:∀w' g,Hid (Kn b0 w0 w' (L++[(g,30,seA Ses.z)]) R)→wpList Tryz.prog ops Q rest (a.put o.dst (.pointer (some ⟨g,0,none⟩))) w'):wpList Tryz.prog ops Q (o::rest) a w:=
 wpList_plain hgd fun _ hK=>kwp_made info_sez HK ho fun w' g h1 _=>hK _ _ (h w' g h1)
theorem kwp_sse(HK:Hid (Kn b0 w0 w L R))(i:Nat)(x y:Operand)(ho:o.op=.store 30 x y)(hL:L[i]?=some (g,30,seA s))(hx:a.eval x=.pointer (some ⟨g,0,none⟩))(hy:a.eval y=.agg (seA u))
  (h:∀w',Hid (Kn b0 w0 w' (L.set i (g,30,seA u)) R)→K (a.put o.dst undef) w'):o.wp Tryz.prog a w K Q:=
 kwp_ss HK _ x y ho i hL hx hy (by show 9≤9;decide) info_se (by simp[seA,Value.oneCell']) fun w' h1 _=>h w' (by
  have e:putCells (seA s) 0 (seA u).toList=seA u:=by rw[putCells_all (vs:=(seA u).toList) (cs:=seA s) rfl,Array.toArray_toList]
  rw[e] at h1
  exact h1)
theorem wpList_sse(HK:Hid (Kn b0 w0 w L R))(i:Nat)(hgd:o.guard=none)(x y:Operand)(ho:o.op=.store 30 x y)(hL:L[i]?=some (g,30,seA s))(hx:a.eval x=.pointer (some ⟨g,0,none⟩))(hy:a.eval y=.agg (seA u))
  (h:∀w',Hid (Kn b0 w0 w' (L.set i (g,30,seA u)) R)→wpList Tryz.prog ops Q rest (a.put o.dst undef) w'):wpList Tryz.prog ops Q (o::rest) a w:=
 wpList_plain hgd fun _ hK=>kwp_sse HK i x y ho hL hx hy fun w' h1=>hK _ _ (h w' h1)
theorem kse(HK:Hid (Kn b0 w0 w L R))(i:Nat)(x:Operand)(ho:o.op=.load 30 x)(hL:L[i]?=some (g,30,seA s))(hx:a.eval x=.pointer (some ⟨g,0,none⟩)):
  (execOp a.eval o).run Tryz.prog w=.ok (.value (.agg (seA s))) w:=
 kexec_lw HK _ x ho i hL hx (seA s) (fun j _=>by rw[Nat.zero_add]) Tryz.underlying30 rfl info_se
theorem ktb(HK:Hid (Kn b0 w0 w L R))(i:Nat)(x:Operand)(ho:o.op=.load 31 x)(hL:L[i]?=some (g,31,tbA t))(hx:a.eval x=.pointer (some ⟨g,0,none⟩)):
  (execOp a.eval o).run Tryz.prog w=.ok (.value (.agg (tbA t))) w:=
 kexec_lw HK _ x ho i hL hx (tbA t) (fun j _=>by rw[Nat.zero_add]) Tryz.underlying31 rfl info_tb
theorem kts(HK:Hid (Kn b0 w0 w L R))(i:Nat)(hc:0≤c∧c<5)(x:Operand)(ho:o.op=.load 30 x)(hL:L[i]?=some (g,31,tbA t))(hx:a.eval x=.pointer (some ⟨g,c.toNat*9,none⟩)):
  (execOp a.eval o).run Tryz.prog w=.ok (.value (.agg (seA (t.get c)))) w:=
 kexec_lw HK _ x ho i hL hx (seA (t.get c)) (fun j hj=>tb_at hc t j hj) Tryz.underlying30 rfl info_se
theorem kse_l(HK:Hid (Kn b0 w0 w L R))(i:Nat)(x:Operand)(ho:o.op=.load 4 x)(hL:L[i]?=some (g,30,seA s))(hx:a.eval x=.pointer (some ⟨g,0,none⟩)):
  (execOp a.eval o).run Tryz.prog w=.ok (.value (.bool s.live)) w:=
 kexec_lc HK _ x ho i hL hx rfl Tryz.underlying4 rfl
theorem kse_e(HK:Hid (Kn b0 w0 w L R))(i:Nat)(x:Operand)(ho:o.op=.load 3 x)(hL:L[i]?=some (g,30,seA s))(hx:a.eval x=.pointer (some ⟨g,1,none⟩)):
  (execOp a.eval o).run Tryz.prog w=.ok (.value (.int .i64 s.ep)) w:=
 kexec_lc HK _ x ho i hL hx rfl Tryz.underlying3 rfl
theorem kse_r(HK:Hid (Kn b0 w0 w L R))(i:Nat)(x:Operand)(ho:o.op=.load 3 x)(hL:L[i]?=some (g,30,seA s))(hx:a.eval x=.pointer (some ⟨g,2,none⟩)):
  (execOp a.eval o).run Tryz.prog w=.ok (.value (.int .i64 s.rq)) w:=
 kexec_lc HK _ x ho i hL hx rfl Tryz.underlying3 rfl
theorem kse_d(HK:Hid (Kn b0 w0 w L R))(i:Nat)(x:Operand)(ho:o.op=.load 4 x)(hL:L[i]?=some (g,30,seA s))(hx:a.eval x=.pointer (some ⟨g,3,none⟩)):
  (execOp a.eval o).run Tryz.prog w=.ok (.value (.bool s.dn)) w:=
 kexec_lc HK _ x ho i hL hx rfl Tryz.underlying4 rfl
theorem kse_p(HK:Hid (Kn b0 w0 w L R))(i:Nat)(x:Operand)(ho:o.op=.load 28 x)(hL:L[i]?=some (g,30,seA s))(hx:a.eval x=.pointer (some ⟨g,4,none⟩)):
  (execOp a.eval o).run Tryz.prog w=.ok (.value (.agg (rpA s.p))) w:=
 kexec_lw HK _ x ho i hL hx (rpA s.p) (fun j hj=>by
  have hj:j<5:=hj
  match j,hj with
  | 0,_|1,_|2,_|3,_|4,_=>rfl) Tryz.underlying28 rfl info_rp
theorem kts_l(HK:Hid (Kn b0 w0 w L R))(i:Nat)(hc:0≤c∧c<5)(x:Operand)(ho:o.op=.load 4 x)(hL:L[i]?=some (g,31,tbA t))(hx:a.eval x=.pointer (some ⟨g,c.toNat*9,none⟩)):
  (execOp a.eval o).run Tryz.prog w=.ok (.value (.bool (t.get c).live)) w:=
 kexec_lc HK _ x ho i hL hx (tb_at hc t 0 (by decide)) Tryz.underlying4 rfl
theorem krf_c{x:Rf}(HK:Hid (Kn b0 w0 w L R))(i:Nat)(y:Operand)(ho:o.op=.load 3 y)(hL:L[i]?=some (g,35,#[.int .i64 x.c,.int .i64 x.e,.int .i64 x.r]))(hx:a.eval y=.pointer (some ⟨g,0,none⟩)):
  (execOp a.eval o).run Tryz.prog w=.ok (.value (.int .i64 x.c)) w:=kexec_lc HK _ y ho i hL hx rfl Tryz.underlying3 rfl
theorem krf_r{x:Rf}(HK:Hid (Kn b0 w0 w L R))(i:Nat)(y:Operand)(ho:o.op=.load 3 y)(hL:L[i]?=some (g,35,#[.int .i64 x.c,.int .i64 x.e,.int .i64 x.r]))(hx:a.eval y=.pointer (some ⟨g,2,none⟩)):
  (execOp a.eval o).run Tryz.prog w=.ok (.value (.int .i64 x.r)) w:=kexec_lc HK _ y ho i hL hx rfl Tryz.underlying3 rfl
theorem exec_ixt(hc:0≤c∧c<5)(x y:Operand)(ho:o.op=.indexAddr 31 x y)(hx:a.eval x=.pointer (some ⟨g,0,none⟩))(hy:a.eval y=.int .i64 c):
  (execOp a.eval o).run Tryz.prog w=.ok (.value (.pointer (some ⟨g,c.toNat*9,none⟩))) w:=by
 have h:(Instr.indexAt 31 (.pointer (some ⟨g,0,none⟩)) (.int .i64 c)).run Tryz.prog w=.ok (.pointer (some ⟨g,c.toNat*9,none⟩)) w:=by
  rcases Ses.cases5 hc with rfl|rfl|rfl|rfl|rfl<;>kernel_rfl
 unfold execOp
 simp only[ho,hx,hy,Sem.run_bind,Sem.run_pure,Result.andThen_ok,h]
theorem ix_tb0(t:Ses.T)(w:World):(Instr.index 31 (.agg (tbA t)) (.int .i64 0)).run Tryz.prog w=.ok (.agg (seA t.s0)) w:=by kernel_rfl
theorem ix_tb1(t:Ses.T)(w:World):(Instr.index 31 (.agg (tbA t)) (.int .i64 1)).run Tryz.prog w=.ok (.agg (seA t.s1)) w:=by kernel_rfl
theorem ix_tb2(t:Ses.T)(w:World):(Instr.index 31 (.agg (tbA t)) (.int .i64 2)).run Tryz.prog w=.ok (.agg (seA t.s2)) w:=by kernel_rfl
theorem ix_tb3(t:Ses.T)(w:World):(Instr.index 31 (.agg (tbA t)) (.int .i64 3)).run Tryz.prog w=.ok (.agg (seA t.s3)) w:=by kernel_rfl
theorem ix_tb4(t:Ses.T)(w:World):(Instr.index 31 (.agg (tbA t)) (.int .i64 4)).run Tryz.prog w=.ok (.agg (seA t.s4)) w:=by kernel_rfl
theorem exec_ixs(hc:0≤c∧c<5)(x y:Operand)(ho:o.op=.index 31 x y)(hx:a.eval x=.agg (tbA t))(hy:a.eval y=.int .i64 c):
  (execOp a.eval o).run Tryz.prog w=.ok (.value (.agg (seA (t.get c)))) w:=by
 have h:(Instr.index 31 (.agg (tbA t)) (.int .i64 c)).run Tryz.prog w=.ok (.agg (seA (t.get c))) w:=by
  rcases Ses.cases5 hc with rfl|rfl|rfl|rfl|rfl
  ·exact ix_tb0 t w
  ·exact ix_tb1 t w
  ·exact ix_tb2 t w
  ·exact ix_tb3 t w
  ·exact ix_tb4 t w
 unfold execOp
 simp only[ho,hx,hy,Sem.run_bind,Sem.run_pure,Result.andThen_ok,h]
theorem exec_bz(ho:o.op=.build 30 #[]):
  (execOp a.eval o).run Tryz.prog w=.ok (.value (.agg (seA Ses.z))) w:=by
 have h:(Instr.build 30 #[]).run Tryz.prog w=.ok (.agg (seA Ses.z)) w:=by
  unfold seA Ses.z Sto.rz
  go_simp
 unfold execOp
 simp only[ho,Sem.run_bind,Sem.run_pure,Result.andThen_ok,List.map_toArray,List.map_cons,List.map_nil,h]
theorem exec_rz(ho:o.op=.build 28 #[]):
  (execOp a.eval o).run Tryz.prog w=.ok (.value (.agg (rpA Sto.rz))) w:=by
 have h:(Instr.build 28 #[]).run Tryz.prog w=.ok (.agg (rpA Sto.rz)) w:=by
  unfold rpA Sto.rz
  go_simp
 unfold execOp
 simp only[ho,Sem.run_bind,Sem.run_pure,Result.andThen_ok,List.map_toArray,List.map_cons,List.map_nil,h]
theorem seq_all(s u:Ses.S):decide (s=u)=(decide (s.live=u.live)&&decide (s.ep=u.ep)&&decide (s.rq=u.rq)&&decide (s.dn=u.dn)&&(decide (s.p.e=u.p.e)&&(decide (s.p.v.k=u.p.v.k)&&decide (s.p.v.n=u.p.v.n)&&decide ((s.p.v.f:Int)=(u.p.v.f:Int))&&decide (s.p.v.s.toList=u.p.v.s.toList)))):=by
 rw[← rpq_all s.p u.p]
 obtain⟨l,e,r,d,p⟩:=s
 obtain⟨l',e',r',d',p'⟩:=u
 dsimp only
 rw[Bool.eq_iff_iff]
 simp only[decide_eq_true_eq,Bool.and_eq_true,Ses.S.mk.injEq,and_assoc]
theorem exec_seE{b:Bool}(x y:Operand)(ho:o.op=.binOp .eql 30 x y 30)(hx:a.eval x=.agg (seA s))(hy:a.eval y=.agg (seA u))(hb:decide (s=u)=b):
  (execOp a.eval o).run Tryz.prog w=.ok (.value (.bool b)) w:=by
 rw[seq_all] at hb
 subst hb
 unfold execOp
 simp only[ho,hx,hy]
 unfold seA
 go_simp
 by_cases h0:s.live=u.live<;>by_cases h1:s.ep=u.ep<;>by_cases h2:s.rq=u.rq<;>by_cases h3:s.dn=u.dn<;>try simp[h0,h1,h2,h3]
 by_cases h4:s.p.e=u.p.e<;>by_cases h5:s.p.v.k=u.p.v.k<;>by_cases h6:s.p.v.n=u.p.v.n<;>by_cases h7:(s.p.v.f:Int)=(u.p.v.f:Int)<;>by_cases h8:s.p.v.s.toList=u.p.v.s.toList<;>simp[h4,h5,h6,h7,h8]
theorem exec_seN{b:Bool}(x y:Operand)(ho:o.op=.binOp .neq 30 x y 30)(hx:a.eval x=.agg (seA s))(hy:a.eval y=.agg (seA u))(hb:(!decide (s=u))=b):
  (execOp a.eval o).run Tryz.prog w=.ok (.value (.bool b)) w:=by
 rw[seq_all] at hb
 subst hb
 unfold execOp
 simp only[ho,hx,hy]
 unfold seA
 go_simp
 by_cases h0:s.live=u.live<;>by_cases h1:s.ep=u.ep<;>by_cases h2:s.rq=u.rq<;>by_cases h3:s.dn=u.dn<;>try simp[h0,h1,h2,h3]
 by_cases h4:s.p.e=u.p.e<;>by_cases h5:s.p.v.k=u.p.v.k<;>by_cases h6:s.p.v.n=u.p.v.n<;>by_cases h7:(s.p.v.f:Int)=(u.p.v.f:Int)<;>by_cases h8:s.p.v.s.toList=u.p.v.s.toList<;>simp[h4,h5,h6,h7,h8]
theorem exec_iE{m n:Int}{b:Bool}(x y:Operand)(ho:o.op=.binOp .eql 3 x y 3)(hx:a.eval x=.int .i64 m)(hy:a.eval y=.int .i64 n)(hb:decide (m=n)=b):
  (execOp a.eval o).run Tryz.prog w=.ok (.value (.bool b)) w:=by
 subst hb
 unfold execOp
 simp only[ho,hx,hy]
 go_simp
 exact Bool.eq_iff_iff.2 (by simp)
theorem exec_iN{m n:Int}{b:Bool}(x y:Operand)(ho:o.op=.binOp .neq 3 x y 3)(hx:a.eval x=.int .i64 m)(hy:a.eval y=.int .i64 n)(hb:(!decide (m=n))=b):
  (execOp a.eval o).run Tryz.prog w=.ok (.value (.bool b)) w:=by
 subst hb
 unfold execOp
 simp only[ho,hx,hy]
 go_simp
 exact Bool.eq_iff_iff.2 (by simp)
theorem exec_iL{m n:Int}{b:Bool}(x y:Operand)(ho:o.op=.binOp .lss 3 x y 3)(hx:a.eval x=.int .i64 m)(hy:a.eval y=.int .i64 n)(hb:decide (m<n)=b):
  (execOp a.eval o).run Tryz.prog w=.ok (.value (.bool b)) w:=by
 subst hb
 unfold execOp
 simp only[ho,hx,hy]
 go_simp
theorem exec_iG{m n:Int}{b:Bool}(x y:Operand)(ho:o.op=.binOp .gtr 3 x y 3)(hx:a.eval x=.int .i64 m)(hy:a.eval y=.int .i64 n)(hb:decide (n<m)=b):
  (execOp a.eval o).run Tryz.prog w=.ok (.value (.bool b)) w:=by
 subst hb
 unfold execOp
 simp only[ho,hx,hy]
 go_simp
theorem exec_iLe{m n:Int}{b:Bool}(x y:Operand)(ho:o.op=.binOp .leq 3 x y 3)(hx:a.eval x=.int .i64 m)(hy:a.eval y=.int .i64 n)(hb:decide (m≤n)=b):
  (execOp a.eval o).run Tryz.prog w=.ok (.value (.bool b)) w:=by
 subst hb
 unfold execOp
 simp only[ho,hx,hy]
 go_simp
theorem exec_iGe{m n:Int}{b:Bool}(x y:Operand)(ho:o.op=.binOp .geq 3 x y 3)(hx:a.eval x=.int .i64 m)(hy:a.eval y=.int .i64 n)(hb:decide (n≤m)=b):
  (execOp a.eval o).run Tryz.prog w=.ok (.value (.bool b)) w:=by
 subst hb
 unfold execOp
 simp only[ho,hx,hy]
 go_simp
theorem exec_dec{m n:Int}(x:Operand)(ho:o.op=.binOp .sub 3 x (.const (.int .i64 1)) 3)(hx:a.eval x=.int .i64 m)(hw:IntKind.i64.wrap (m-1)=n):
  (execOp a.eval o).run Tryz.prog w=.ok (.value (.int .i64 n)) w:=by
 have he:a.eval (.const (.int .i64 1))=.int .i64 1:=rfl
 unfold execOp
 simp only[ho,hx,he]
 go_simp
theorem exec_incz{m n:Int}(x:Operand)(ho:o.op=.binOp .add 3 x (.const (.int .i64 1)) 3)(hx:a.eval x=.int .i64 m)(hw:IntKind.i64.wrap (m+1)=n):
  (execOp a.eval o).run Tryz.prog w=.ok (.value (.int .i64 n)) w:=by
 have he:a.eval (.const (.int .i64 1))=.int .i64 1:=rfl
 unfold execOp
 simp only[ho,hx,he]
 go_simp
end
section
variable {fn:Func}{R:Ending→World→Prop}{a:Act}{w:World}{B B2:Nat}{s:Ses.S}{t:Ses.T}{p:Sto.Rp}{q q2:Tmp}
theorem ret_se(hf:fn.results=#[.cell q 30])(h2:a.tmps[q]?=some (.pointer (some ⟨B,0,none⟩)))(hd:a.defers=[])(hb:Blk w B 30 (seA s))
  (hR:R (.returned (.agg (seA s))) w):bodyPost Tryz.prog fn R Exit.ret a w:=
 bodyPost_ret (results_cell_row hf a.tmps w B _ _ (0,0) _ (by simp[h2]) hb Tryz.underlying30 rfl info_se) hd hR
end
def IsInt(x:Int)(w:World)(e:Ending)(w':World):Prop:=e=.returned (.int .i64 x)∧Below w.heap.size w w'
end
end Go.Proofs.YtieoeendnccafaaGreat
