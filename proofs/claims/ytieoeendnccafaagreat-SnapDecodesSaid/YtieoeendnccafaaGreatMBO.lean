/- What the laws SnapEncodes, SnapDecodes and SnapBack return. No condition but those named. -/
import Derived.Test.YtieoeendnccafaaGreatMTK
import Derived.Test.YtieoeendnccafaaGreatMAL
import Derived.Test.YtieoeendnccafaaGreatMAI
import Derived.Test.YtieoeendnccafaaGreatMAJ
import Derived.Test.YtieoeendnccafaaGreatMAD
import Derived.Test.YtieoeendnccafaaGreatMAN
import Derived.Test.YtieoeendnccafaaGreatMAR
import Derived.Test.YtieoeendnccafaaGreatMBI
import Derived.Test.YtieoeendnccafaaGreatMBM
import Derived.Test.YtieoeendnccafaaGreatApSm
import Derived.Test.YtieoeendnccafaaGreatMAB
import Derived.KernelRfl
import Derived.OpenShut
set_option linter.unusedSimpArgs false
set_option linter.unusedVariables false
set_option maxRecDepth 100000
set_option maxHeartbeats 25600000
namespace Go.Proofs.YtieoeendnccafaaGreat
section
open Go.RowKit
def evC(c e r k:Int)(name key:ByteArray)(vk vn:Int)(vf:Nat)(vs:ByteArray)(ok on:Int)(of:Nat)(os:ByteArray)(n m:Int):Array Value:=
 #[.int .i64 c,.int .i64 e,.int .i64 r,.int .i64 k,.string name,.string key,.int .i64 vk,.int .i64 vn,.int .u64 (vf:Int),.string vs,.int .i64 ok,.int .i64 on,.int .u64 (of:Int),.string os,.int .i64 n,.int .i64 m]
section
variable {b0:Nat}{w0 w:World}{L:List (Nat×TypeId×Array Value)}{R:List RowE}{ops:Array Oper}{rest:List Oper}{o:Oper}{a:Act}{Q:Exit→Act→World→Prop}
variable {g:Nat}{t:TypeId}{c e r k:Int}{name key:ByteArray}{vk vn:Int}{vf:Nat}{vs:ByteArray}{ok on:Int}{of:Nat}{os:ByteArray}{n m:Int}
theorem Kn.ev(h:Kn b0 w0 w L R)(i:Nat)(hi:L[i]?=some (g,t,evC c e r k name key vk vn vf vs ok on of os n m)):
  w.cell? ⟨g,0,none⟩=some (.int .i64 c)∧w.cell? ⟨g,1,none⟩=some (.int .i64 e)∧w.cell? ⟨g,2,none⟩=some (.int .i64 r)∧w.cell? ⟨g,3,none⟩=some (.int .i64 k)∧w.cell? ⟨g,4,none⟩=some (.string name)∧w.cell? ⟨g,5,none⟩=some (.string key)∧
  w.cell? ⟨g,14,none⟩=some (.int .i64 n)∧w.cell? ⟨g,15,none⟩=some (.int .i64 m):=
 ⟨h.cell i hi 0 rfl,h.cell i hi 1 rfl,h.cell i hi 2 rfl,h.cell i hi 3 rfl,h.cell i hi 4 rfl,h.cell i hi 5 rfl,h.cell i hi 14 rfl,h.cell i hi 15 rfl⟩
end
end
section
open Go.ChangeShapes Go.WideShapes Go.Deep Go.RowKit
def cmL(c:Cmd.C):List Value:=
 [.int .i64 c.k,.string c.name,.string c.key,.int .i64 c.val.k,.int .i64 c.val.n,.int .u64 (c.val.f:Int),.string c.val.s,.int .i64 c.old.k,.int .i64 c.old.n,.int .u64 (c.old.f:Int),.string c.old.s,.int .i64 c.n,.int .i64 c.m]
section
variable {H:Type}{enc:TypeId×Value→H}{W:World}{base:Nat}{α:Type}
theorem cells_cmd:Tryz.prog.cellsOf 37=13:=by kernel_rfl
theorem opens_cmd:OpensT enc 37 cmL (fun c=>c.val.f<18446744073709551616∧c.old.f<18446744073709551616):=fun W n cs x ht=>by
 obtain⟨ys,m,_,hx,hlen,hyl,hf⟩:=DataW.trod_struct Tryz.underlying37 ht
 have hlen:cs.length=Tryz.prog.cellsOf 37:=hlen
 rw[cells_cmd] at hlen
 match cs,hlen,ys,hyl with
 | [v0,v1,v2,v3,v4,v5,v6,v7,v8,v9,v10,v11,v12],_,[y0,y1,y2,y3,y4,y5,y6],_=>
  have f0:=hf 0 _ rfl
  have f1:=hf 1 _ rfl
  have f2:=hf 2 _ rfl
  have f3:=hf 3 _ rfl
  have f4:=hf 4 _ rfl
  have f5:=hf 5 _ rfl
  have f6:=hf 6 _ rfl
  simp only[List.getElem?_cons_zero,List.getElem?_cons_succ] at f0 f1 f2 f3 f4 f5 f6
  obtain⟨a0,e0,_,_⟩:=DataW.trod_int Tryz.underlying3 f0
  obtain⟨a1,e1,_,_⟩:=DataW.trod_string Tryz.underlying9 f1
  obtain⟨a2,e2,_,_⟩:=DataW.trod_string Tryz.underlying9 f2
  obtain⟨a3,e3,w3⟩:=opens_val (enc:=enc) W _ _ _ f3
  obtain⟨a4,e4,w4⟩:=opens_val (enc:=enc) W _ _ _ f4
  obtain⟨a5,e5,_,_⟩:=DataW.trod_int Tryz.underlying3 f5
  obtain⟨a6,e6,_,_⟩:=DataW.trod_int Tryz.underlying3 f6
  cases e0;cases e1;cases e2;cases e3;cases e4;cases e5;cases e6
  exact⟨⟨a0,a1,a2,a3,a4,a5,a6⟩,rfl,w3,w4⟩
theorem Lift.Given.cmd{ts:List TypeId}{args:List Value}{ds:List (DataW H)}{before:List MemPlace}(h:Lift.Given enc Tryz.prog (37::ts) W base args ds before):
  ∃(x:Cmd.C) (vs:List Value) (d:DataW H) (ds':List (DataW H)) (q:List MemPlace),args=.agg (cmL x).toArray::vs∧ds=d::ds'∧(x.val.f<18446744073709551616∧x.old.f<18446744073709551616)∧Lift.Given enc Tryz.prog ts W base vs ds' q:=h.one opens_cmd Tryz.underlying37
end
end
section
open Go.ChangeShapes Go.WideShapes Go.Deep Go.RowKit
section
variable {H:Type}{enc:TypeId×Value→H}{W:World}{base:Nat}
theorem Lift.Given.mt{ts:List TypeId}{args:List Value}{ds:List (DataW H)}{before:List MemPlace}(h:Lift.Given enc Tryz.prog (61::ts) W base args ds before):
  ∃(x:Mtr) (vs:List Value) (d:DataW H) (ds':List (DataW H)) (q:List MemPlace),args=.agg (mL x).toArray::vs∧ds=d::ds'∧Mt.Fit x∧Lift.Given enc Tryz.prog ts W base vs ds' q:=h.one opens_mt Tryz.underlying61
end
end
section
open Go.ChangeShapes Go.WideShapes Go.Deep Go.RowKit
section
variable {H:Type}{enc:TypeId×Value→H}{P:Program}{W:World}{base:Nat}{α:Type}
def OpensW(enc:TypeId×Value→H)(W:World)(L:Lay P α)(Good:α→DataW H→Prop):Prop:=
 ∀(n:Nat) (cs:List Value) (x:DataW H×List MemPlace),DataW.trod enc P W 0 (fun _=>true) true n L.e cs=some x→∃it:α,cs=L.f it∧Good it x.1
theorem things_cells2{L:Lay P α}{Good:α→DataW H→Prop}(hop:Opens enc L Good)(hcells:P.cellsOf L.e=L.k)(hbytes:P.bytesOf L.e=L.bytes)
  {fuel:Nat} {cs:List Value} {d:DataW H} {p:List MemPlace} (h0:DataW.trod enc P W 0 (fun _=>true) true fuel L.t cs=some (d,p)) (hw:(d.weights P L.t).all (·≤reachBytes)=true) :
  ∃(A:Option Addr) (c:Nat) (l:List α),cs=[.slice A l.length c]∧L.Reads W W.heap.size A l∧(A=none→l=[])∧(∀x∈l,∃dx,Good x dx)∧l.length*L.bytes≤reachBytes∧l.length≤c:=by
 rcases open_slice L.und h0 with ⟨hcs,hx⟩|⟨a,len,cap,m,n,D,Pl,hcs,_,hl,hm,hmm,hx,hi⟩
 ·exact⟨none,0,[],hcs,Lay.Reads.nil _ _ _,fun _=>rfl,(fun x hx=>by cases hx),by simp,Nat.le_refl _⟩
 ·simp only[if_true] at hmm
  subst hmm
  cases hx
  have hall:∀i,i<m→∃it:α,(∀j u,(L.f it)[j]?=some u→W.cell? ((a.add (i*L.k)).add j)=some u)∧Good it (D i):=fun i him=>by
   obtain⟨cs,hc,ht⟩:=hi i him
   obtain⟨it,rfl,hg⟩:=hop W _ _ _ ht
   rw[hcells] at hc
   obtain⟨_,hcl,hat⟩:=World.cells?_some hc
   refine⟨it,fun j u hu=>?_,hg⟩
   have hj:=(List.getElem?_eq_some_iff.1 hu).1
   rw[L.len] at hj
   rw[hat j hj,hu]
  by_cases h0:len=0
  ·subst h0
   exact⟨some a,m,[],hcs,Lay.Reads.nil _ _ _,(fun h=>by cases h),(fun x hx=>by cases hx),by simp,Nat.zero_le _⟩
  have:Inhabited α:=⟨(hall 0 (by omega)).choose⟩
  obtain⟨f,hf⟩:=choose_lt hall
  have hlen:((List.range len).map f).length=len:=by simp
  have hget:∀i x,((List.range len).map f)[i]?=some x→i<len∧x=f i:=fun i x hx=>by
   rw[List.getElem?_map] at hx
   obtain⟨j,hj,rfl⟩:=Option.map_eq_some_iff.1 hx
   have hlt:i<len:=by
    rcases Nat.lt_or_ge i len with h|h
    ·exact h
    ·rw[List.getElem?_eq_none (by simpa using h)] at hj;cases hj
   rw[List.getElem?_range hlt] at hj
   cases hj
   exact⟨hlt,rfl⟩
  have hsome:∃u,W.cell? a=some u:=by
   have h1:=L.len (f 0)
   have h2:=L.pos
   obtain⟨u,hu⟩:=Lay.get_of (l:=L.f (f 0)) (k:=0) (by omega)
   have h3:=(hf 0 (by omega)).1 0 u hu
   simp only[Nat.zero_mul,Addr.add,if_true] at h3
   exact⟨u,h3⟩
  obtain⟨u0,hu0⟩:=hsome
  have ha:a=⟨a.block,a.off,none⟩:=by
   obtain⟨b,o,sp⟩:=a
   cases sp with
   | none=>rfl
   | some z=>unfold World.cell? at hu0;split at hu0<;>simp at hu0
  have hW:(DataW.weights P L.t (.slice ((List.range len).map D) ((List.range (m-len)).map fun j=>D (len+j)):DataW H)).all (·≤reachBytes)=true:=hw
  unfold DataW.weights at hW
  rw[L.und] at hW
  simp only[List.all_cons,List.all_append,Bool.and_eq_true,decide_eq_true_eq,List.length_map,List.length_range,hbytes] at hW
  obtain⟨hW1,_,_⟩:=hW
  refine⟨some a,m,(List.range len).map f,by rw[hlen];exact hcs,fun hp=>?_,(fun h=>by cases h),(fun x hx=>?_),?_,by rw[hlen];exact hl⟩
  ·refine⟨a.block,a.off,by rw[← ha],World.block_lt_of_cell? W a hu0,fun i x hx j u hu=>?_⟩
   obtain⟨hlt,rfl⟩:=hget i x hx
   have h1:=(hf i (by omega)).1 j u hu
   rw[ha,Lay.add_at,Lay.add_at] at h1
   exact h1
  ·obtain⟨i,hi',rfl⟩:=List.mem_map.1 hx
   exact⟨D i,(hf i (by have:=List.mem_range.1 hi';omega)).2⟩
  ·rw[hlen]
   exact Nat.le_trans (Nat.mul_le_mul_right _ (by omega)) hW1
end
section
variable {H:Type}{enc:TypeId×Value→H}{W:World}{base:Nat}
theorem cells_pr:Tryz.prog.cellsOf 103=5:=by kernel_rfl
theorem bytes_pr:Tryz.prog.bytesOf 103=56:=by kernel_rfl
theorem opens_pr:Opens enc prLay (fun p _=>p.val.f<18446744073709551616):=fun W n cs x ht=>by
 obtain⟨ys,m,_,hx,hlen,hyl,hf⟩:=DataW.trod_struct Tryz.underlying103 ht
 have hlen:cs.length=Tryz.prog.cellsOf 103:=hlen
 rw[cells_pr] at hlen
 match cs,hlen,ys,hyl with
 | [v0,v1,v2,v3,v4],_,[y0,y1],_=>
  have f0:=hf 0 _ rfl
  have f1:=hf 1 _ rfl
  simp only[List.getElem?_cons_zero,List.getElem?_cons_succ] at f0 f1
  obtain⟨a0,e0,_,_⟩:=DataW.trod_string Tryz.underlying9 f0
  obtain⟨a1,e1,w1⟩:=opens_val (enc:=enc) W _ _ _ f1
  cases e0;cases e1
  exact⟨⟨a0,a1⟩,rfl,w1⟩
theorem cells_ob:Tryz.prog.cellsOf 63=11:=by kernel_rfl
theorem bytes_ob:Tryz.prog.bytesOf 63=144:=by kernel_rfl
theorem reach_is:reachBytes=140737488351232:=rfl
theorem opens_ob:OpensW enc W obLay (fun x dx=>(dx.weights Tryz.prog 63).all (·≤reachBytes)=true→In W x):=fun n cs x ht=>by
 obtain⟨ys,m,_,hx,hlen,hyl,hf⟩:=DataW.trod_struct Tryz.underlying63 ht
 have hlen:cs.length=Tryz.prog.cellsOf 63:=hlen
 rw[cells_ob] at hlen
 match cs,hlen,ys,hyl with
 | [v0,v1,v2,v3,v4,v5,v6,v7,v8,v9,v10],_,[y0,y1,y2,(d3,p3),(d4,p4),(d5,p5),y6,y7],_=>
  have f0:=hf 0 _ rfl
  have f1:=hf 1 _ rfl
  have f2:=hf 2 _ rfl
  have f3:=hf 3 _ rfl
  have f4:=hf 4 _ rfl
  have f5:=hf 5 _ rfl
  have f6:=hf 6 _ rfl
  have f7:=hf 7 _ rfl
  simp only[List.getElem?_cons_zero,List.getElem?_cons_succ] at f0 f1 f2 f3 f4 f5 f6 f7
  obtain⟨a0,e0,_,_⟩:=DataW.trod_string Tryz.underlying9 f0
  obtain⟨a1,e1,_,_⟩:=DataW.trod_int Tryz.underlying3 f1
  obtain⟨a2,e2,_,_⟩:=DataW.trod_int Tryz.underlying3 f2
  obtain⟨a6,e6,_,w6⟩:=DataW.trod_int Tryz.underlying3 f6
  obtain⟨a7,e7,w7⟩:=opens_mt (enc:=enc) W _ _ _ f7
  have hd:x.1=.agg [y0.1,y1.1,y2.1,d3,d4,d5,y6.1,y7.1]:=congrArg Prod.fst hx
  by_cases hw:(x.1.weights Tryz.prog 63).all (·≤reachBytes)=true
  case neg=>
   have hs3:∃A n c,v3=.slice A n c:=by
    rcases open_slice Tryz.underlying57 f3 with ⟨hcs,_⟩|⟨a,len,cap,m,n,D,Pl,hcs,_⟩
    ·injection hcs with h;exact⟨_,_,_,h⟩
    ·injection hcs with h;exact⟨_,_,_,h⟩
   have hs4:∃A n c,v4=.slice A n c:=by
    rcases open_slice Tryz.underlying58 f4 with ⟨hcs,_⟩|⟨a,len,cap,m,n,D,Pl,hcs,_⟩
    ·injection hcs with h;exact⟨_,_,_,h⟩
    ·injection hcs with h;exact⟨_,_,_,h⟩
   have hs5:∃A n c,v5=.slice A n c:=by
    rcases open_slice Tryz.underlying59 f5 with ⟨hcs,_⟩|⟨a,len,cap,m,n,D,Pl,hcs,_⟩
    ·injection hcs with h;exact⟨_,_,_,h⟩
    ·injection hcs with h;exact⟨_,_,_,h⟩
   obtain⟨A3,n3,c3,rfl⟩:=hs3
   obtain⟨A4,n4,c4,rfl⟩:=hs4
   obtain⟨A5,n5,c5,rfl⟩:=hs5
   cases e0;cases e1;cases e2;cases e6;cases e7
   exact⟨⟨⟨a0,a1,a2,[],[],[],a6,a7⟩,A3,n3,c3,A4,n4,c4,A5,n5,c5⟩,rfl,fun h=>absurd h hw⟩
  case pos=>
   have hw2:=hw
   rw[hd] at hw2
   unfold DataW.weights at hw2
   rw[Tryz.underlying63] at hw2
   simp only[List.map_cons,List.map_nil,DataW.weightsEach,List.all_append,Bool.and_eq_true] at hw2
   obtain⟨_,_,_,hw3,hw4,hw5,_⟩:=hw2
   obtain⟨A3,c3,l3,hc3,r3,n3,g3,b3,k3⟩:=things_cells2 (L:=prLay) opens_pr cells_pr bytes_pr (cs:=[v3]) f3 hw3
   obtain⟨A4,c4,l4,hc4,r4,n4,g4,b4,k4⟩:=things_cells2 (L:=vaLay) opens_vas cells_val bytes_val (cs:=[v4]) f4 hw4
   obtain⟨A5,c5,l5,hc5,r5,n5,g5,b5,k5⟩:=things_cells2 (L:=rfLay) opens_rf cells_rf bytes_rf (cs:=[v5]) f5 hw5
   injection hc3 with hc3
   injection hc4 with hc4
   injection hc5 with hc5
   subst hc3 hc4 hc5
   cases e0;cases e1;cases e2;cases e6;cases e7
   refine⟨⟨⟨a0,a1,a2,l3,l4,l5,a6,a7⟩,A3,l3.length,c3,A4,l4.length,c4,A5,l5.length,c5⟩,rfl,fun _=>⟨?_,?_,?_,w7,by have:=bounds_i64 w6;show a6≤_;omega⟩⟩
   ·refine Sls.sl ⟨rfl,k3,r3,n3,fun y hy=>?_,?_⟩
    ·obtain⟨_,g⟩:=g3 y hy;exact g
    ·have h:l3.length*56≤reachBytes:=b3
     rw[reach_is] at h
     show l3.length*56≤_
     omega
   ·refine⟨rfl,k4,r4,n4,fun y hy=>?_,?_⟩
    ·obtain⟨_,g⟩:=g4 y hy;exact g
    ·have h:l4.length*40≤reachBytes:=b4
     rw[reach_is] at h
     show l4.length*40≤_
     omega
   ·refine⟨rfl,k5,r5,n5,fun y hy=>trivial,?_⟩
    have h:l5.length*24≤reachBytes:=b5
    rw[reach_is] at h
    show l5.length*24≤_
    omega
end
end
section
open Go.ChangeShapes Go.WideShapes Go.Deep Go.RowKit
def evL(e:Cmd.E):List Value:=
 [.int .i64 e.c,.int .i64 e.e,.int .i64 e.r,.int .i64 e.cmd.k,.string e.cmd.name,.string e.cmd.key,.int .i64 e.cmd.val.k,.int .i64 e.cmd.val.n,.int .u64 (e.cmd.val.f:Int),.string e.cmd.val.s,.int .i64 e.cmd.old.k,.int .i64 e.cmd.old.n,.int .u64 (e.cmd.old.f:Int),.string e.cmd.old.s,.int .i64 e.cmd.n,.int .i64 e.cmd.m]
section
variable {H:Type}{enc:TypeId×Value→H}{W:World}{base:Nat}{α:Type}
theorem cells_ref:Tryz.prog.cellsOf 35=3:=by kernel_rfl
theorem cells_ev:Tryz.prog.cellsOf 39=16:=by kernel_rfl
theorem opens_ref:OpensT enc 35 (fun r:Int×Int×Int=>[.int .i64 r.1,.int .i64 r.2.1,.int .i64 r.2.2]) (fun _=>True):=fun W n cs x ht=>by
 obtain⟨ys,m,_,hx,hlen,hyl,hf⟩:=DataW.trod_struct Tryz.underlying35 ht
 have hlen:cs.length=Tryz.prog.cellsOf 35:=hlen
 rw[cells_ref] at hlen
 match cs,hlen,ys,hyl with
 | [v0,v1,v2],_,[y0,y1,y2],_=>
  have f0:=hf 0 _ rfl
  have f1:=hf 1 _ rfl
  have f2:=hf 2 _ rfl
  simp only[List.getElem?_cons_zero,List.getElem?_cons_succ] at f0 f1 f2
  obtain⟨a0,e0,_,_⟩:=DataW.trod_int Tryz.underlying3 f0
  obtain⟨a1,e1,_,_⟩:=DataW.trod_int Tryz.underlying3 f1
  obtain⟨a2,e2,_,_⟩:=DataW.trod_int Tryz.underlying3 f2
  cases e0;cases e1;cases e2
  exact⟨(a0,a1,a2),rfl,trivial⟩
theorem opens_evt:OpensT enc 39 evL (fun e=>e.cmd.val.f<18446744073709551616∧e.cmd.old.f<18446744073709551616):=fun W n cs x ht=>by
 obtain⟨ys,m,_,hx,hlen,hyl,hf⟩:=DataW.trod_struct Tryz.underlying39 ht
 have hlen:cs.length=Tryz.prog.cellsOf 39:=hlen
 rw[cells_ev] at hlen
 match cs,hlen,ys,hyl with
 | [v0,v1,v2,v3,v4,v5,v6,v7,v8,v9,v10,v11,v12,v13,v14,v15],_,[y0,y1],_=>
  have f0:=hf 0 _ rfl
  have f1:=hf 1 _ rfl
  simp only[List.getElem?_cons_zero,List.getElem?_cons_succ] at f0 f1
  obtain⟨⟨a0,a1,a2⟩,e0,_⟩:=opens_ref (enc:=enc) W _ _ _ f0
  obtain⟨a3,e1,w3⟩:=opens_cmd (enc:=enc) W _ _ _ f1
  cases e0;cases e1
  exact⟨⟨a0,a1,a2,a3⟩,rfl,w3⟩
theorem Lift.Given.ev{ts:List TypeId}{args:List Value}{ds:List (DataW H)}{before:List MemPlace}(h:Lift.Given enc Tryz.prog (39::ts) W base args ds before):
  ∃(x:Cmd.E) (vs:List Value) (d:DataW H) (ds':List (DataW H)) (q:List MemPlace),args=.agg (evL x).toArray::vs∧ds=d::ds'∧(x.cmd.val.f<18446744073709551616∧x.cmd.old.f<18446744073709551616)∧Lift.Given enc Tryz.prog ts W base vs ds' q:=h.one opens_evt Tryz.underlying39
end
end
section
open Go.ChangeShapes Go.WideShapes Go.Deep Go.RowKit
section
variable {H:Type}{enc:TypeId×Value→H}{W:World}{base:Nat}
def seL(s:Ses.S):List Value:=[.bool s.live,.int .i64 s.ep,.int .i64 s.rq,.bool s.dn,.int .i64 s.p.e,.int .i64 s.p.v.k,.int .i64 s.p.v.n,.int .u64 (s.p.v.f:Int),.string s.p.v.s]
theorem cells_ses:Tryz.prog.cellsOf 30=9:=by kernel_rfl
theorem cells_tab:Tryz.prog.cellsOf 31=45:=by kernel_rfl
theorem opens_se:OpensT enc 30 seL (fun s=>s.p.v.f<18446744073709551616):=fun W n cs x ht=>by
 obtain⟨ys,m,_,hx,hlen,hyl,hf⟩:=DataW.trod_struct Tryz.underlying30 ht
 have hlen:cs.length=Tryz.prog.cellsOf 30:=hlen
 rw[cells_ses] at hlen
 match cs,hlen,ys,hyl with
 | [v0,v1,v2,v3,v4,v5,v6,v7,v8],_,[y0,y1,y2,y3,y4],_=>
  have f0:=hf 0 _ rfl
  have f1:=hf 1 _ rfl
  have f2:=hf 2 _ rfl
  have f3:=hf 3 _ rfl
  have f4:=hf 4 _ rfl
  simp only[List.getElem?_cons_zero,List.getElem?_cons_succ] at f0 f1 f2 f3 f4
  obtain⟨a0,e0,_⟩:=DataW.trod_bool Tryz.underlying4 f0
  obtain⟨a1,e1,_,_⟩:=DataW.trod_int Tryz.underlying3 f1
  obtain⟨a2,e2,_,_⟩:=DataW.trod_int Tryz.underlying3 f2
  obtain⟨a3,e3,_⟩:=DataW.trod_bool Tryz.underlying4 f3
  obtain⟨a4,e4,w4⟩:=opens_rp (enc:=enc) W _ _ _ f4
  cases e0;cases e1;cases e2;cases e3;cases e4
  exact⟨⟨a0,a1,a2,a3,a4⟩,rfl,w4⟩
theorem nine_of{l:List Value}(h:l.length=45)(f:Nat→Ses.S)(hf:∀i,i<5→(l.drop (i*9)).take 9=seL (f i)):l=seL (f 0)++(seL (f 1)++(seL (f 2)++(seL (f 3)++seL (f 4)))):=by
 have cut:∀k,(l.drop k).take 9++l.drop (k+9)=l.drop k:=fun k=>by
  rw[← List.drop_drop]
  exact List.take_append_drop 9 (l.drop k)
 have last:(l.drop 36).take 9=l.drop 36:=List.take_of_length_le (by rw[List.length_drop];omega)
 rw[← hf 0 (by decide),← hf 1 (by decide),← hf 2 (by decide),← hf 3 (by decide),← hf 4 (by decide)]
 have c0:=cut 0
 have c1:=cut 9
 have c2:=cut 18
 have c3:=cut 27
 simp only[Nat.reduceMul,Nat.reduceAdd,Nat.zero_mul,Nat.zero_add] at c0 c1 c2 c3 ⊢
 rw[last,c3,c2,c1,c0]
 rfl
theorem opens_tab:OpensT enc 31 (fun t=>(tbA t).toList) Ses.Fit:=fun W n cs x ht=>by
 obtain⟨xs,m,_,hx,hlen,hxl,hel⟩:=DataW.trod_array Tryz.underlying31 ht
 rw[cells_tab] at hlen
 rw[cells_ses] at hel
 have hall:∀i,i<5→∃s:Ses.S,(cs.drop (i*9)).take 9=seL s∧s.p.v.f<18446744073709551616:=fun i hi=>by
  have h1:=hel i hi
  rw[List.getElem?_eq_getElem (by omega)] at h1
  obtain⟨s,e,g⟩:=opens_se (enc:=enc) W _ _ _ h1
  exact⟨s,e,g⟩
 have:Inhabited Ses.S:=⟨Ses.z⟩
 obtain⟨f,hf⟩:=choose_lt hall
 refine⟨⟨f 0,f 1,f 2,f 3,f 4⟩,(nine_of hlen f (fun i hi=>(hf i hi).1)).trans rfl,fun c hc=>?_⟩
 rcases Ses.cases5 hc with rfl|rfl|rfl|rfl|rfl
 ·exact(hf 0 (by decide)).2
 ·exact(hf 1 (by decide)).2
 ·exact(hf 2 (by decide)).2
 ·exact(hf 3 (by decide)).2
 ·exact(hf 4 (by decide)).2
end
end
section
open Go.ChangeShapes Go.WideShapes Go.Deep Go.RowKit
section
variable {H:Type}{enc:TypeId×Value→H}{P:Program}{W:World}{base:Nat}{α:Type}
theorem things_cellsW{L:Lay P α}{Good:α→DataW H→Prop}(hop:OpensW enc W L Good)(hcells:P.cellsOf L.e=L.k)(hbytes:P.bytesOf L.e=L.bytes)
  {fuel:Nat} {cs:List Value} {d:DataW H} {p:List MemPlace} (h0:DataW.trod enc P W 0 (fun _=>true) true fuel L.t cs=some (d,p)) (hw:(d.weights P L.t).all (·≤reachBytes)=true) :
  ∃(A:Option Addr) (c:Nat) (l:List α),cs=[.slice A l.length c]∧L.Reads W W.heap.size A l∧(A=none→l=[])∧(∀x∈l,∃dx,Good x dx∧(dx.weights P L.e).all (·≤reachBytes)=true)∧l.length*L.bytes≤reachBytes∧l.length≤c:=by
 rcases open_slice L.und h0 with ⟨hcs,hx⟩|⟨a,len,cap,m,n,D,Pl,hcs,_,hl,hm,hmm,hx,hi⟩
 ·exact⟨none,0,[],hcs,Lay.Reads.nil _ _ _,fun _=>rfl,(fun x hx=>by cases hx),by simp,Nat.le_refl _⟩
 ·simp only[if_true] at hmm
  subst hmm
  cases hx
  have hall:∀i,i<m→∃it:α,(∀j u,(L.f it)[j]?=some u→W.cell? ((a.add (i*L.k)).add j)=some u)∧Good it (D i):=fun i him=>by
   obtain⟨cs,hc,ht⟩:=hi i him
   obtain⟨it,rfl,hg⟩:=hop _ _ _ ht
   rw[hcells] at hc
   obtain⟨_,hcl,hat⟩:=World.cells?_some hc
   refine⟨it,fun j u hu=>?_,hg⟩
   have hj:=(List.getElem?_eq_some_iff.1 hu).1
   rw[L.len] at hj
   rw[hat j hj,hu]
  by_cases h0:len=0
  ·subst h0
   exact⟨some a,m,[],hcs,Lay.Reads.nil _ _ _,(fun h=>by cases h),(fun x hx=>by cases hx),by simp,Nat.zero_le _⟩
  have:Inhabited α:=⟨(hall 0 (by omega)).choose⟩
  obtain⟨f,hf⟩:=choose_lt hall
  have hlen:((List.range len).map f).length=len:=by simp
  have hget:∀i x,((List.range len).map f)[i]?=some x→i<len∧x=f i:=fun i x hx=>by
   rw[List.getElem?_map] at hx
   obtain⟨j,hj,rfl⟩:=Option.map_eq_some_iff.1 hx
   have hlt:i<len:=by
    rcases Nat.lt_or_ge i len with h|h
    ·exact h
    ·rw[List.getElem?_eq_none (by simpa using h)] at hj;cases hj
   rw[List.getElem?_range hlt] at hj
   cases hj
   exact⟨hlt,rfl⟩
  have hsome:∃u,W.cell? a=some u:=by
   have h1:=L.len (f 0)
   have h2:=L.pos
   obtain⟨u,hu⟩:=Lay.get_of (l:=L.f (f 0)) (k:=0) (by omega)
   have h3:=(hf 0 (by omega)).1 0 u hu
   simp only[Nat.zero_mul,Addr.add,if_true] at h3
   exact⟨u,h3⟩
  obtain⟨u0,hu0⟩:=hsome
  have ha:a=⟨a.block,a.off,none⟩:=by
   obtain⟨b,o,sp⟩:=a
   cases sp with
   | none=>rfl
   | some z=>unfold World.cell? at hu0;split at hu0<;>simp at hu0
  have hW:(DataW.weights P L.t (.slice ((List.range len).map D) ((List.range (m-len)).map fun j=>D (len+j)):DataW H)).all (·≤reachBytes)=true:=hw
  unfold DataW.weights at hW
  rw[L.und] at hW
  simp only[List.all_cons,List.all_append,Bool.and_eq_true,decide_eq_true_eq,List.length_map,List.length_range,hbytes] at hW
  obtain⟨hW1,hW2,_⟩:=hW
  refine⟨some a,m,(List.range len).map f,by rw[hlen];exact hcs,fun hp=>?_,(fun h=>by cases h),(fun x hx=>?_),?_,by rw[hlen];exact hl⟩
  ·refine⟨a.block,a.off,by rw[← ha],World.block_lt_of_cell? W a hu0,fun i x hx j u hu=>?_⟩
   obtain⟨hlt,rfl⟩:=hget i x hx
   have h1:=(hf i (by omega)).1 j u hu
   rw[ha,Lay.add_at,Lay.add_at] at h1
   exact h1
  ·obtain⟨i,hi',rfl⟩:=List.mem_map.1 hx
   have hD:D i∈(List.range len).map D:=List.mem_map.2 ⟨i,hi',rfl⟩
   exact⟨D i,(hf i (by have:=List.mem_range.1 hi';omega)).2,List.all_eq_true.2 fun n hn=>List.all_eq_true.1 hW2 n (weightsAll_mem hn hD)⟩
  ·rw[hlen]
   exact Nat.le_trans (Nat.mul_le_mul_right _ (by omega)) hW1
end
section
variable {H:Type}{enc:TypeId×Value→H}{W:World}{base:Nat}
theorem cells_st:Tryz.prog.cellsOf 33=47:=by kernel_rfl
theorem Lift.Given.state{ts:List TypeId}{args:List Value}{ds:List (DataW H)}{before:List MemPlace}(h:Lift.Given enc Tryz.prog (33::ts) W base args ds before):
  ∃(n:Int) (A:Option Addr) (c:Nat) (l:List Oh) (t:Ses.T) (vs:List Value) (d:DataW H) (ds':List (DataW H)) (q:List MemPlace),args=.agg (stA n A l.length c t)::vs∧ds=d::ds'∧(-9223372036854775808≤n∧n≤9223372036854775807)∧Obs W A l.length c l∧Ses.Fit t∧Lift.Given enc Tryz.prog ts W base vs ds' q:=by
 obtain⟨v,vs,d,ds',p,q,rfl,rfl,rfl,h0,hok,_,hw,hg⟩:=h.cons
 obtain⟨fuel,h0⟩:=h0
 obtain⟨cs,rfl,hsz⟩:=okWide_struct Tryz.underlying33 hok
 have hcl:(Value.agg cs).cells.toList=cs.toList:=by simp[Value.cells]
 rw[hcl] at h0
 obtain⟨ys,m,_,hx,hlen,hyl,hf⟩:=DataW.trod_struct Tryz.underlying33 h0
 have hlen:cs.toList.length=Tryz.prog.cellsOf 33:=hlen
 rw[cells_st] at hlen
 obtain⟨cl⟩:=cs
 match cl,hlen,ys,hyl with
 | v0::v1::rest,hlen,[y0,(d1,p1),y2],_=>
  have hrl:rest.length=45:=by
   have h:rest.length+1+1=47:=hlen
   omega
  have f0:=hf 0 _ rfl
  have f1:=hf 1 _ rfl
  have f2:=hf 2 _ rfl
  simp only[List.getElem?_cons_zero,List.getElem?_cons_succ] at f0 f1 f2
  obtain⟨n,e0,w0,w1⟩:=DataW.trod_int Tryz.underlying3 f0
  obtain⟨t,e2,w2⟩:=opens_tab (enc:=enc) W _ _ _ f2
  have hd:d=.agg [y0.1,d1,y2.1]:=congrArg Prod.fst hx
  rw[hd] at hw
  unfold DataW.weights at hw
  rw[Tryz.underlying33] at hw
  simp only[List.map_cons,List.map_nil,DataW.weightsEach,List.all_append,Bool.and_eq_true] at hw
  obtain⟨_,hw1,_⟩:=hw
  obtain⟨A,c,l,hc,rd,nl,gd,bd,kd⟩:=things_cellsW (L:=obLay) opens_ob cells_ob bytes_ob (cs:=[v1]) f1 hw1
  injection hc with hc
  subst hc
  have hb:l.length*144≤reachBytes:=bd
  rw[reach_is] at hb
  have e3:rest=(tbA t).toList:=by
   refine Eq.trans ?_ e2
   show rest=rest.take (Tryz.prog.cellsOf 31)
   rw[cells_tab,List.take_of_length_le (by omega)]
  have hv:(⟨v0::.slice A l.length c::rest⟩:Array Value)=stA n A l.length c t:=by
   cases e0
   rw[e3]
   rfl
  refine⟨n,A,c,l,t,vs,d,ds',q,by rw[hv],rfl,?_,⟨⟨rfl,kd,rd,nl,fun x hx=>trivial,by show l.length*144≤_;omega⟩,fun x hx=>?_⟩,w2,hg⟩
  ·have:=bounds_i64 w1
   exact⟨by omega,by omega⟩
  ·obtain⟨dx,g,hwx⟩:=gd x hx
   exact g hwx
end
end
section
open Go.ChangeShapes Go.WideShapes Go.Deep Go.RowKit
theorem Val.sg_rng{u:Nat}(h:u<18446744073709551616): -9223372036854775808≤Val.sg u∧Val.sg u≤9223372036854775807:=by
 unfold Val.sg
 split<;>omega
theorem Snp.fit_val{k n:Int}{f:Nat}{s:ByteArray}(hk : -9223372036854775808≤k∧k≤9223372036854775807)(hn : -9223372036854775808≤n∧n≤9223372036854775807)(hf:f<18446744073709551616):Snp.Fit (Val.items ⟨k,n,f,s⟩):=by
 unfold Val.items
 refine Snp.Fit.num hk.1 hk.2 ?_
 dsimp only
 split
 ·exact Snp.Fit.num hn.1 hn.2 Snp.Fit.nil
 ·split
  ·exact Snp.Fit.num (Val.sg_rng hf).1 (Val.sg_rng hf).2 Snp.Fit.nil
  ·split
   ·exact Snp.Fit.txt Snp.Fit.nil
   ·exact Snp.Fit.nil
theorem i64_rng{n:Int}(h:Lit.wf (.int .i64 n)=true): -9223372036854775808≤n∧n≤9223372036854775807:=by
 have:=bounds_i64 h
 exact⟨by omega,by omega⟩
theorem Snp.fit_many{α:Type}{f:α→Snp.Its}{l:List α}(hl:l.length≤9223372036854775807)(h:∀x∈l,Snp.Fit (f x)):Snp.Fit (Snp.many f l):=Snp.Fit.num (by omega) (by omega) (Snp.Fit.flat h)
section
variable {H:Type}{enc:TypeId×Value→H}{W:World}{base:Nat}{α:Type}
theorem opens_valF:OpensT enc 26 vaL (fun v=>v.f<18446744073709551616∧Snp.Fit (Val.items v)):=fun W n cs x ht=>by
 obtain⟨ys,m,_,hx,hlen,hyl,hf⟩:=DataW.trod_struct Tryz.underlying26 ht
 have hlen:cs.length=Tryz.prog.cellsOf 26:=hlen
 rw[cells_val] at hlen
 match cs,hlen,ys,hyl with
 | [v0,v1,v2,v3],_,[y0,y1,y2,y3],_=>
  have f0:=hf 0 _ rfl
  have f1:=hf 1 _ rfl
  have f2:=hf 2 _ rfl
  have f3:=hf 3 _ rfl
  simp only[List.getElem?_cons_zero,List.getElem?_cons_succ] at f0 f1 f2 f3
  obtain⟨a0,e0,_,z0⟩:=DataW.trod_int Tryz.underlying3 f0
  obtain⟨a1,e1,_,z1⟩:=DataW.trod_int Tryz.underlying3 f1
  obtain⟨a2,e2,_,z2⟩:=DataW.trod_int Tryz.underlying24 f2
  obtain⟨a3,e3,_,_⟩:=DataW.trod_string Tryz.underlying9 f3
  cases e0;cases e1;cases e2;cases e3
  obtain⟨u,rfl,hu⟩:=u64_lt z2
  exact⟨⟨a0,a1,u,a3⟩,rfl,hu,Snp.fit_val (i64_rng z0) (i64_rng z1) hu⟩
theorem opens_prF:Opens enc prLay (fun p _=>p.val.f<18446744073709551616∧Snp.Fit (Snp.prI p)):=fun W n cs x ht=>by
 obtain⟨ys,m,_,hx,hlen,hyl,hf⟩:=DataW.trod_struct Tryz.underlying103 ht
 have hlen:cs.length=Tryz.prog.cellsOf 103:=hlen
 rw[cells_pr] at hlen
 match cs,hlen,ys,hyl with
 | [v0,v1,v2,v3,v4],_,[y0,y1],_=>
  have f0:=hf 0 _ rfl
  have f1:=hf 1 _ rfl
  simp only[List.getElem?_cons_zero,List.getElem?_cons_succ] at f0 f1
  obtain⟨a0,e0,_,_⟩:=DataW.trod_string Tryz.underlying9 f0
  obtain⟨a1,e1,w1⟩:=opens_valF (enc:=enc) W _ _ _ f1
  cases e0;cases e1
  exact⟨⟨a0,a1⟩,rfl,w1.1,Snp.Fit.txt w1.2⟩
theorem opens_vaF:Opens enc vaLay (fun v _=>vF v∧Snp.Fit (Val.items v)):=fun W n cs x ht=>by
 obtain⟨v,h1,h2⟩:=opens_valF (enc:=enc) W n cs x ht
 exact⟨v,h1,h2⟩
theorem opens_rfF1:OpensT enc 35 rfL (fun x=>Snp.Fit (Snp.rfI x)):=fun W n cs x ht=>by
 obtain⟨ys,m,_,hx,hlen,hyl,hf⟩:=DataW.trod_struct Tryz.underlying35 ht
 have hlen:cs.length=Tryz.prog.cellsOf 35:=hlen
 rw[cells_rf] at hlen
 match cs,hlen,ys,hyl with
 | [v0,v1,v2],_,[y0,y1,y2],_=>
  have f0:=hf 0 _ rfl
  have f1:=hf 1 _ rfl
  have f2:=hf 2 _ rfl
  simp only[List.getElem?_cons_zero,List.getElem?_cons_succ] at f0 f1 f2
  obtain⟨a0,e0,_,z0⟩:=DataW.trod_int Tryz.underlying3 f0
  obtain⟨a1,e1,_,z1⟩:=DataW.trod_int Tryz.underlying3 f1
  obtain⟨a2,e2,_,z2⟩:=DataW.trod_int Tryz.underlying3 f2
  cases e0;cases e1;cases e2
  exact⟨⟨a0,a1,a2⟩,rfl,Snp.Fit.num (i64_rng z0).1 (i64_rng z0).2 (Snp.Fit.num (i64_rng z1).1 (i64_rng z1).2 (Snp.Fit.num (i64_rng z2).1 (i64_rng z2).2 Snp.Fit.nil))⟩
theorem opens_rfF:Opens enc rfLay (fun x _=>Snp.Fit (Snp.rfI x)):=fun W n cs x ht=>by
 obtain⟨v,h1,h2⟩:=opens_rfF1 (enc:=enc) W n cs x ht
 exact⟨v,h1,h2⟩
theorem opens_mtF:OpensT enc 61 mL (fun m=>Mt.Fit m∧Snp.Fit (Snp.mtI m)):=fun W n cs x ht=>by
 obtain⟨ys,m,_,hx,hlen,hyl,hf⟩:=DataW.trod_struct Tryz.underlying61 ht
 have hlen:cs.length=Tryz.prog.cellsOf 61:=hlen
 rw[cells_mt] at hlen
 match cs,hlen,ys,hyl with
 | [v0,v1,v2,v3],_,[y0,y1,y2,y3],_=>
  have f0:=hf 0 _ rfl
  have f1:=hf 1 _ rfl
  have f2:=hf 2 _ rfl
  have f3:=hf 3 _ rfl
  simp only[List.getElem?_cons_zero,List.getElem?_cons_succ] at f0 f1 f2 f3
  obtain⟨a0,e0,_,z0⟩:=DataW.trod_int Tryz.underlying3 f0
  obtain⟨a1,e1,_,z1⟩:=DataW.trod_int Tryz.underlying24 f1
  obtain⟨a2,e2,_,z2⟩:=DataW.trod_int Tryz.underlying24 f2
  obtain⟨a3,e3,_,z3⟩:=DataW.trod_int Tryz.underlying24 f3
  cases e0;cases e1;cases e2;cases e3
  obtain⟨u1,rfl,hu1⟩:=u64_lt z1
  obtain⟨u2,rfl,hu2⟩:=u64_lt z2
  obtain⟨u3,rfl,hu3⟩:=u64_lt z3
  exact⟨⟨a0,u1,u2,u3⟩,rfl,⟨by have:=bounds_i64 z0;show a0≤_;omega,hu1,hu2,hu3⟩,Snp.Fit.num (i64_rng z0).1 (i64_rng z0).2 (Snp.Fit.num (Val.sg_rng hu1).1 (Val.sg_rng hu1).2 (Snp.Fit.num (Val.sg_rng hu2).1 (Val.sg_rng hu2).2 (Snp.Fit.num (Val.sg_rng hu3).1 (Val.sg_rng hu3).2 Snp.Fit.nil)))⟩
theorem opens_obF:OpensW enc W obLay (fun x dx=>(dx.weights Tryz.prog 63).all (·≤reachBytes)=true→In W x∧Snp.Fit (Snp.obI x.v)):=fun n cs x ht=>by
 obtain⟨ys,m,_,hx,hlen,hyl,hf⟩:=DataW.trod_struct Tryz.underlying63 ht
 have hlen:cs.length=Tryz.prog.cellsOf 63:=hlen
 rw[cells_ob] at hlen
 match cs,hlen,ys,hyl with
 | [v0,v1,v2,v3,v4,v5,v6,v7,v8,v9,v10],_,[y0,y1,y2,(d3,p3),(d4,p4),(d5,p5),y6,y7],_=>
  have f0:=hf 0 _ rfl
  have f1:=hf 1 _ rfl
  have f2:=hf 2 _ rfl
  have f3:=hf 3 _ rfl
  have f4:=hf 4 _ rfl
  have f5:=hf 5 _ rfl
  have f6:=hf 6 _ rfl
  have f7:=hf 7 _ rfl
  simp only[List.getElem?_cons_zero,List.getElem?_cons_succ] at f0 f1 f2 f3 f4 f5 f6 f7
  obtain⟨a0,e0,_,_⟩:=DataW.trod_string Tryz.underlying9 f0
  obtain⟨a1,e1,_,z1⟩:=DataW.trod_int Tryz.underlying3 f1
  obtain⟨a2,e2,_,z2⟩:=DataW.trod_int Tryz.underlying3 f2
  obtain⟨a6,e6,_,z6⟩:=DataW.trod_int Tryz.underlying3 f6
  obtain⟨a7,e7,w7⟩:=opens_mtF (enc:=enc) W _ _ _ f7
  have hd:x.1=.agg [y0.1,y1.1,y2.1,d3,d4,d5,y6.1,y7.1]:=congrArg Prod.fst hx
  by_cases hw:(x.1.weights Tryz.prog 63).all (·≤reachBytes)=true
  case neg=>
   have hs3:∃A n c,v3=.slice A n c:=by
    rcases open_slice Tryz.underlying57 f3 with ⟨hcs,_⟩|⟨a,len,cap,m,n,D,Pl,hcs,_⟩
    ·injection hcs with h;exact⟨_,_,_,h⟩
    ·injection hcs with h;exact⟨_,_,_,h⟩
   have hs4:∃A n c,v4=.slice A n c:=by
    rcases open_slice Tryz.underlying58 f4 with ⟨hcs,_⟩|⟨a,len,cap,m,n,D,Pl,hcs,_⟩
    ·injection hcs with h;exact⟨_,_,_,h⟩
    ·injection hcs with h;exact⟨_,_,_,h⟩
   have hs5:∃A n c,v5=.slice A n c:=by
    rcases open_slice Tryz.underlying59 f5 with ⟨hcs,_⟩|⟨a,len,cap,m,n,D,Pl,hcs,_⟩
    ·injection hcs with h;exact⟨_,_,_,h⟩
    ·injection hcs with h;exact⟨_,_,_,h⟩
   obtain⟨A3,n3,c3,rfl⟩:=hs3
   obtain⟨A4,n4,c4,rfl⟩:=hs4
   obtain⟨A5,n5,c5,rfl⟩:=hs5
   cases e0;cases e1;cases e2;cases e6;cases e7
   exact⟨⟨⟨a0,a1,a2,[],[],[],a6,a7⟩,A3,n3,c3,A4,n4,c4,A5,n5,c5⟩,rfl,fun h=>absurd h hw⟩
  case pos=>
   have hw2:=hw
   rw[hd] at hw2
   unfold DataW.weights at hw2
   rw[Tryz.underlying63] at hw2
   simp only[List.map_cons,List.map_nil,DataW.weightsEach,List.all_append,Bool.and_eq_true] at hw2
   obtain⟨_,_,_,hw3,hw4,hw5,_⟩:=hw2
   obtain⟨A3,c3,l3,hc3,r3,n3,g3,b3,k3⟩:=things_cells2 (L:=prLay) opens_prF cells_pr bytes_pr (cs:=[v3]) f3 hw3
   obtain⟨A4,c4,l4,hc4,r4,n4,g4,b4,k4⟩:=things_cells2 (L:=vaLay) opens_vaF cells_val bytes_val (cs:=[v4]) f4 hw4
   obtain⟨A5,c5,l5,hc5,r5,n5,g5,b5,k5⟩:=things_cells2 (L:=rfLay) opens_rfF cells_rf bytes_rf (cs:=[v5]) f5 hw5
   injection hc3 with hc3
   injection hc4 with hc4
   injection hc5 with hc5
   subst hc3 hc4 hc5
   cases e0;cases e1;cases e2;cases e6;cases e7
   refine⟨⟨⟨a0,a1,a2,l3,l4,l5,a6,a7⟩,A3,l3.length,c3,A4,l4.length,c4,A5,l5.length,c5⟩,rfl,fun _=>⟨⟨?_,?_,?_,w7.1,by have:=bounds_i64 z6;show a6≤_;omega⟩,?_⟩⟩
   ·refine Sls.sl ⟨rfl,k3,r3,n3,fun y hy=>?_,?_⟩
    ·obtain⟨_,g⟩:=g3 y hy;exact g.1
    ·have h:l3.length*56≤reachBytes:=b3
     rw[reach_is] at h
     show l3.length*56≤_
     omega
   ·refine⟨rfl,k4,r4,n4,fun y hy=>?_,?_⟩
    ·obtain⟨_,g⟩:=g4 y hy;exact g.1
    ·have h:l4.length*40≤reachBytes:=b4
     rw[reach_is] at h
     show l4.length*40≤_
     omega
   ·refine⟨rfl,k5,r5,n5,fun y hy=>trivial,?_⟩
    have h:l5.length*24≤reachBytes:=b5
    rw[reach_is] at h
    show l5.length*24≤_
    omega
   ·have q3:l3.length≤9223372036854775807:=by
     have h:l3.length*56≤reachBytes:=b3
     rw[reach_is] at h
     omega
    have q4:l4.length≤9223372036854775807:=by
     have h:l4.length*40≤reachBytes:=b4
     rw[reach_is] at h
     omega
    have q5:l5.length≤9223372036854775807:=by
     have h:l5.length*24≤reachBytes:=b5
     rw[reach_is] at h
     omega
    exact(Snp.Fit.txt (Snp.Fit.num (i64_rng z1).1 (i64_rng z1).2 (Snp.Fit.num (i64_rng z2).1 (i64_rng z2).2 (Snp.Fit.num (i64_rng z6).1 (i64_rng z6).2 Snp.Fit.nil)))).app ((Snp.fit_many q3 fun y hy=>by obtain⟨_,g⟩:=g3 y hy;exact g.2).app ((Snp.fit_many q4 fun y hy=>by obtain⟨_,g⟩:=g4 y hy;exact g.2).app ((Snp.fit_many q5 fun y hy=>by obtain⟨_,g⟩:=g5 y hy;exact g).app w7.2)))
theorem opens_rpF:OpensT enc 28 rpL (fun p=>p.v.f<18446744073709551616∧(-9223372036854775808≤p.e∧p.e≤9223372036854775807)∧Snp.Fit (Val.items p.v)):=fun W n cs x ht=>by
 obtain⟨ys,m,_,hx,hlen,hyl,hf⟩:=DataW.trod_struct Tryz.underlying28 ht
 have hlen:cs.length=Tryz.prog.cellsOf 28:=hlen
 rw[cells_rp] at hlen
 match cs,hlen,ys,hyl with
 | [v0,v1,v2,v3,v4],_,[y0,y1],_=>
  have f0:=hf 0 _ rfl
  have f1:=hf 1 _ rfl
  simp only[List.getElem?_cons_zero,List.getElem?_cons_succ] at f0 f1
  obtain⟨a0,e0,_,z0⟩:=DataW.trod_int Tryz.underlying23 f0
  obtain⟨a1,e1,w1⟩:=opens_valF (enc:=enc) W _ _ _ f1
  cases e0;cases e1
  exact⟨⟨a0,a1⟩,rfl,w1.1,i64_rng z0,w1.2⟩
theorem opens_seF:OpensT enc 30 seL (fun s=>s.p.v.f<18446744073709551616∧Snp.Fit (Snp.seI s)):=fun W n cs x ht=>by
 obtain⟨ys,m,_,hx,hlen,hyl,hf⟩:=DataW.trod_struct Tryz.underlying30 ht
 have hlen:cs.length=Tryz.prog.cellsOf 30:=hlen
 rw[cells_ses] at hlen
 match cs,hlen,ys,hyl with
 | [v0,v1,v2,v3,v4,v5,v6,v7,v8],_,[y0,y1,y2,y3,y4],_=>
  have f0:=hf 0 _ rfl
  have f1:=hf 1 _ rfl
  have f2:=hf 2 _ rfl
  have f3:=hf 3 _ rfl
  have f4:=hf 4 _ rfl
  simp only[List.getElem?_cons_zero,List.getElem?_cons_succ] at f0 f1 f2 f3 f4
  obtain⟨a0,e0,_⟩:=DataW.trod_bool Tryz.underlying4 f0
  obtain⟨a1,e1,_,z1⟩:=DataW.trod_int Tryz.underlying3 f1
  obtain⟨a2,e2,_,z2⟩:=DataW.trod_int Tryz.underlying3 f2
  obtain⟨a3,e3,_⟩:=DataW.trod_bool Tryz.underlying4 f3
  obtain⟨a4,e4,w4⟩:=opens_rpF (enc:=enc) W _ _ _ f4
  cases e0;cases e1;cases e2;cases e3;cases e4
  exact⟨⟨a0,a1,a2,a3,a4⟩,rfl,w4.1,(Snp.Fit.flg (Snp.Fit.num (i64_rng z1).1 (i64_rng z1).2 (Snp.Fit.num (i64_rng z2).1 (i64_rng z2).2 (Snp.Fit.flg (Snp.Fit.num w4.2.1.1 w4.2.1.2 Snp.Fit.nil))))).app w4.2.2⟩
theorem opens_tabF:OpensT enc 31 (fun t=>(tbA t).toList) (fun t=>Ses.Fit t∧Snp.Fit (Snp.tbI t)):=fun W n cs x ht=>by
 obtain⟨xs,m,_,hx,hlen,hxl,hel⟩:=DataW.trod_array Tryz.underlying31 ht
 rw[cells_tab] at hlen
 rw[cells_ses] at hel
 have hall:∀i,i<5→∃s:Ses.S,(cs.drop (i*9)).take 9=seL s∧(s.p.v.f<18446744073709551616∧Snp.Fit (Snp.seI s)):=fun i hi=>by
  have h1:=hel i hi
  rw[List.getElem?_eq_getElem (by omega)] at h1
  obtain⟨s,e,g⟩:=opens_seF (enc:=enc) W _ _ _ h1
  exact⟨s,e,g⟩
 have:Inhabited Ses.S:=⟨Ses.z⟩
 obtain⟨f,hf⟩:=choose_lt hall
 refine⟨⟨f 0,f 1,f 2,f 3,f 4⟩,(nine_of hlen f (fun i hi=>(hf i hi).1)).trans rfl,fun c hc=>?_,((hf 0 (by decide)).2.2).app (((hf 1 (by decide)).2.2).app (((hf 2 (by decide)).2.2).app (((hf 3 (by decide)).2.2).app (hf 4 (by decide)).2.2)))⟩
 rcases Ses.cases5 hc with rfl|rfl|rfl|rfl|rfl
 ·exact(hf 0 (by decide)).2.1
 ·exact(hf 1 (by decide)).2.1
 ·exact(hf 2 (by decide)).2.1
 ·exact(hf 3 (by decide)).2.1
 ·exact(hf 4 (by decide)).2.1
theorem Lift.Given.stateF{ts:List TypeId}{args:List Value}{ds:List (DataW H)}{before:List MemPlace}(h:Lift.Given enc Tryz.prog (33::ts) W base args ds before):
  ∃(n:Int) (A:Option Addr) (c:Nat) (l:List Oh) (t:Ses.T) (vs:List Value) (d:DataW H) (ds':List (DataW H)) (q:List MemPlace),args=.agg (stA n A l.length c t)::vs∧ds=d::ds'∧(-9223372036854775808≤n∧n≤9223372036854775807)∧Obs W A l.length c l∧Ses.Fit t∧Snp.Fit (Snp.stI ⟨n,Go.Proofs.YtieoeendnccafaaGreat.vs l,t⟩)∧Lift.Given enc Tryz.prog ts W base vs ds' q:=by
 obtain⟨v,vs,d,ds',p,q,rfl,rfl,rfl,h0,hok,_,hw,hg⟩:=h.cons
 obtain⟨fuel,h0⟩:=h0
 obtain⟨cs,rfl,hsz⟩:=okWide_struct Tryz.underlying33 hok
 have hcl:(Value.agg cs).cells.toList=cs.toList:=by simp[Value.cells]
 rw[hcl] at h0
 obtain⟨ys,m,_,hx,hlen,hyl,hf⟩:=DataW.trod_struct Tryz.underlying33 h0
 have hlen:cs.toList.length=Tryz.prog.cellsOf 33:=hlen
 rw[cells_st] at hlen
 obtain⟨cl⟩:=cs
 match cl,hlen,ys,hyl with
 | v0::v1::rest,hlen,[y0,(d1,p1),y2],_=>
  have hrl:rest.length=45:=by
   have h:rest.length+1+1=47:=hlen
   omega
  have f0:=hf 0 _ rfl
  have f1:=hf 1 _ rfl
  have f2:=hf 2 _ rfl
  simp only[List.getElem?_cons_zero,List.getElem?_cons_succ] at f0 f1 f2
  obtain⟨n,e0,w0,w1⟩:=DataW.trod_int Tryz.underlying3 f0
  obtain⟨t,e2,w2⟩:=opens_tabF (enc:=enc) W _ _ _ f2
  have hd:d=.agg [y0.1,d1,y2.1]:=congrArg Prod.fst hx
  rw[hd] at hw
  unfold DataW.weights at hw
  rw[Tryz.underlying33] at hw
  simp only[List.map_cons,List.map_nil,DataW.weightsEach,List.all_append,Bool.and_eq_true] at hw
  obtain⟨_,hw1,_⟩:=hw
  obtain⟨A,c,l,hc,rd,nl,gd,bd,kd⟩:=things_cellsW (L:=obLay) opens_obF cells_ob bytes_ob (cs:=[v1]) f1 hw1
  injection hc with hc
  subst hc
  have hb:l.length*144≤reachBytes:=bd
  rw[reach_is] at hb
  have e3:rest=(tbA t).toList:=by
   refine Eq.trans ?_ e2
   show rest=rest.take (Tryz.prog.cellsOf 31)
   rw[cells_tab,List.take_of_length_le (by omega)]
  have hv:(⟨v0::.slice A l.length c::rest⟩:Array Value)=stA n A l.length c t:=by
   cases e0
   rw[e3]
   rfl
  refine⟨n,A,c,l,t,vs,d,ds',q,by rw[hv],rfl,?_,⟨⟨rfl,kd,rd,nl,fun x hx=>trivial,by show l.length*144≤_;omega⟩,fun x hx=>?_⟩,w2.1,?_,hg⟩
  ·have:=bounds_i64 w1
   exact⟨by omega,by omega⟩
  ·obtain⟨dx,g,hwx⟩:=gd x hx
   exact(g hwx).1
  ·have hr : -9223372036854775808≤n∧n≤9223372036854775807:=by
    have:=bounds_i64 w1
    exact⟨by omega,by omega⟩
   refine Snp.Fit.num hr.1 hr.2 (Snp.Fit.app (Snp.fit_many ?_ fun y hy=>?_) w2.2)
   ·rw[vs_len]
    omega
   ·obtain⟨x,hx,rfl⟩:=List.mem_map.1 hy
    obtain⟨dx,g,hwx⟩:=gd x hx
    exact(g hwx).2
end
end
section
open Go.RowKit
theorem Snp.D_good(c:Bool)(b:ByteArray):Snp.Fit (Snp.stI (Snp.D c b).1)∧Snp.Ft (Snp.D c b).1∧Snp.stG c (Snp.D c b).1∧(Snp.stI (Snp.D c b).1).length≤16384:=by
 by_cases h0:(Snp.D c b).2=0
 ·obtain⟨s,h1,h2,h3,h4,h5⟩:=Snp.once h0
  rw[h1]
  refine⟨h3,h4,Snp.ok_G h2 h4 c,?_⟩
  have h:=Snp.E_le s h3
  rw[Snp.E_ok h2 h3] at h
  have h':=wire_len ((Snp.stI s).map Snp.toW)
  rw[List.length_map] at h'
  have h2:((Wire.all ((Snp.stI s).map Snp.toW)).toArray).size≤16384:=h
  rw[List.size_toArray] at h2
  show(Snp.stI s).length≤_
  omega
 ·rw[Snp.D_bad h0]
  exact⟨Snp.fit_z,Snp.ft_z,Snp.ok_G Snp.ok_z Snp.ft_z c,by decide⟩
theorem dec_obs{c:Bool}{b:ByteArray}{n:Int}{A:Option Addr}{k m:Nat}{l:List Oh}{t:Ses.T}{b0:Nat}{w0 W:World}{L:List (Nat×TypeId×Array Value)}{R:List RowE}(hv:Sh.v ⟨n,⟨A,k,m,l⟩,t⟩=(Snp.D c b).1)(hk:Kn b0 w0 W L R)(hR:∀y∈olRows ⟨A,k,m,l⟩,y∈R):Obs W A k m l:=by
 obtain⟨h1,h2,h3,h4⟩:=Snp.D_good c b
 rw[← hv] at h1 h3 h4
 exact(Sh.obs (x:=⟨n,⟨A,k,m,l⟩,t⟩) (c:=c) hk hR h1 h3 h4).1
theorem obs_ft{n:Int}{t:Ses.T}{W:World}{A:Option Addr}{k m:Nat}{l:List Oh}(h:Obs W A k m l)(ht:Ses.Fit t):Snp.Ft ⟨n,vs l,t⟩:=by
 have hi:∀o∈vs l,∃x∈l,x.v=o:=fun o ho=>List.mem_map.1 ho
 refine⟨fun o ho=>?_,fun o ho=>?_,fun o ho=>?_,ht⟩
 ·obtain⟨x,hx,rfl⟩:=hi o ho
  exact(h.i x hx).p.fs
 ·obtain⟨x,hx,rfl⟩:=hi o ho
  exact(h.i x hx).v.fit.fs
 ·obtain⟨x,hx,rfl⟩:=hi o ho
  exact⟨(h.i x hx).m.2.1,(h.i x hx).m.2.2.1,(h.i x hx).m.2.2.2⟩
theorem snencodes_any(n:Int)(A:Option Addr)(k c:Nat)(t:Ses.T)(lo:List Oh)(w:World)(hs:Obs w A k c lo)(hf:Ses.Fit t)(hfit:Snp.Fit (Snp.stI ⟨n,vs lo,t⟩)):
  Calls Tryz.prog 5 #[.agg (stA n A k c t)] w (IsB true w):=by
 have HAw:=zH snawake_any
 have HE:=zH (fun W (hW:Below w.heap.size w W)=>nencode_any n A k c t lo W (hs.later hW) hf hfit)
 have HR:=zH (fun W (hW:Below w.heap.size w W)=>rnencode_any n A k c t lo W (hs.later hW) hf hfit)
 have hl:=Snp.E_le ⟨n,vs lo,t⟩ hfit
 have HK:=kn1 w 33 (stA n A k c t)
 unfold IsBe at HE HR
 unfold IsB at HAw ⊢
 generalize Snp.E ⟨n,vs lo,t⟩=r at *
 obtain⟨a,e⟩:=r
 have hl2:((a.size:Nat):Int)≤16384:=by
  have:a.size≤16384:=hl
  omega
 dsimp only at HE HR
 clear hs hf hfit hl
 go_enter Tryz.func5,Tryz.ntmps5
 go_wp2_with (first|refine zX (kst HK 0 _ (by rfl) (by rfl) (by rfl)) ?_)
 refine(HE.out _ HK.out.b).mono ?_;rintro e wx ⟨rfl,bx⟩;replace HK:=hkC HK bx;clear bx
 go_wp2_with (first|refine zX (kst HK 0 _ (by rfl) (by rfl) (by rfl)) ?_)
 refine(HR.out _ HK.out.b).mono ?_;rintro e wx ⟨rfl,bx⟩;replace HK:=hkC HK bx;clear bx
 go_wp2_with fail
 refine(HAw.out _).mono ?_;rintro e wx ⟨rfl,bx⟩;replace HK:=hkC HK bx;clear bx
 go_wp2_with fail
 go_ret
 exact⟨rfl,HK.out.b⟩
theorem sndecodes_any(b:ByteArray)(w:World)(hs:b.size≤140737488351232):
  Calls Tryz.prog 6 #[.string b] w (IsB true w):=by
 have HAw:=zH snawake_any
 have HD:=zH (fun W=>rdecode2_any b W hs)
 have HR:=zH (fun W=>rfdecode_any b W hs)
 have HO:Hid (∀(n9:Int) (A:Option Addr) (k m:Nat) (l:List Oh) (t9:Ses.T) (b0:Nat) (w0 W:World) (L:List (Nat×TypeId×Array Value)) (R:List RowE),Sh.v ⟨n9,⟨A,k,m,l⟩,t9⟩=(Snp.D false b).1→Kn b0 w0 W L R→(∀y∈olRows ⟨A,k,m,l⟩,y∈R)→Obs W A k m l):=zH fun n A k m l t b0 w0 W L R h1 h2 h3=>dec_obs h1 h2 h3
 rw[Snp.D_same] at HR
 have HSm:=zH (fun n A2 B2 k2 c2 k3 c3 t a b W h1 h2 h3=>apsame_yes n A2 B2 k2 c2 k3 c3 t a b W h1 h2 h3)
 have HK:=zH (Kn.start w)
 unfold IsB at HAw HSm ⊢
 unfold IsDec at HD HR
 generalize Snp.D false b=r at *
 obtain⟨s,e⟩:=r
 dsimp only at HD HR HO
 clear hs
 go_enter Tryz.func6,Tryz.ntmps6
 go_wp2_with fail
 refine(HD.out _).mono ?_;rintro e w1 ⟨⟨n1,⟨A1,k1,c1,l1⟩,t1⟩,hx1,rfl,j1⟩;replace HK:=zH (HK.out.join j1);clear j1
 unfold Sh.enc
 simp only[lnA] at HK
 dsimp only at HK ⊢
 have HX1:=zH hx1
 clear hx1
 go_wp2_with (first|(refine wpList_ast HK rfl rfl ?_;intro _ g1 HK';simp only[lcA,lnA,List.append_nil] at HK';replace HK:=HK';clear HK')|(refine wpList_sst HK 0 rfl _ _ rfl rfl rfl rfl ?_;intro _ HK';simp only[List.set] at HK';replace HK:=HK';clear HK'))
 refine(HR.out _).mono ?_;rintro e w1 ⟨⟨n2,⟨A2,k2,c2,l2⟩,t2⟩,hx2,rfl,j2⟩;replace HK:=zH (HK.out.join j2);clear j2
 have hx12:=hx2.trans HX1.out.symm
 have HX2:=zH hx2
 obtain rfl:n2=n1:=congrArg Ap.St.n hx12
 obtain rfl:t2=t1:=congrArg Ap.St.t hx12
 have HV:Hid (vs l1=vs l2):=zH (congrArg Ap.St.l hx12).symm
 clear hx2 hx12
 unfold Sh.enc
 dsimp only at HK ⊢
 go_wp2_with (first|(refine wpList_ast HK rfl rfl ?_;intro _ g2 HK';simp only[lcA,lnA,List.append_nil] at HK';replace HK:=HK';clear HK')|(refine wpList_sst HK 1 rfl _ _ rfl rfl rfl rfl ?_;intro _ HK';simp only[List.set] at HK';replace HK:=HK';clear HK'))
 refine(HAw.out _).mono ?_;rintro e wx ⟨rfl,bx⟩;replace HK:=hkC HK bx;clear bx
 go_wp2_with (first|refine zX (kst HK 0 _ (by rfl) (by rfl) (by rfl)) ?_|refine zX (kst HK 1 _ (by rfl) (by rfl) (by rfl)) ?_)
 refine(HSm.out _ _ _ _ _ _ _ _ _ _ _ (HO.out _ _ _ _ _ _ _ _ _ _ _ HX1.out HK.out (fun y hy=>List.mem_append_left _ hy)) (HO.out _ _ _ _ _ _ _ _ _ _ _ HX2.out HK.out (fun y hy=>List.mem_append_right _ hy)) HV.out).mono ?_;rintro e wx ⟨rfl,bx⟩;replace HK:=hkC HK bx;clear bx
 go_wp2_with fail
 go_ret
 exact⟨rfl,HK.out.b⟩
theorem snback_any(n:Int)(A:Option Addr)(k c:Nat)(t:Ses.T)(lo:List Oh)(w:World)(hs:Obs w A k c lo)(hf:Ses.Fit t)(hfit:Snp.Fit (Snp.stI ⟨n,vs lo,t⟩)):
  Calls Tryz.prog 7 #[.agg (stA n A k c t)] w (IsB true w):=by
 have HAw:=zH snawake_any
 have HS:=zH hs
 have HE:=zH (fun W (hW:Below w.heap.size w W)=>nencode_any n A k c t lo W (hs.later hW) hf hfit)
 have HRt:=zH (fun W (hW:Below w.heap.size w W)=>rapright_any n A k c t lo W (hs.later hW) hf)
 have HK:=kn1 w 33 (stA n A k c t)
 by_cases hok:Ap.Ok ⟨n,vs lo,t⟩
 ·have hbk:=Snp.back hok hfit (obs_ft hs hf) false
  have he:(Snp.E ⟨n,vs lo,t⟩).2=0:=by rw[Snp.E_ok hok hfit]
  have hl:=Snp.E_le ⟨n,vs lo,t⟩ hfit
  have HO:Hid (∀(n9:Int) (A:Option Addr) (k m:Nat) (l:List Oh) (t9:Ses.T) (b0:Nat) (w0 W:World) (L:List (Nat×TypeId×Array Value)) (R:List RowE),Sh.v ⟨n9,⟨A,k,m,l⟩,t9⟩=(Snp.D false (Snp.E ⟨n,vs lo,t⟩).1).1→Kn b0 w0 W L R→(∀y∈olRows ⟨A,k,m,l⟩,y∈R)→Obs W A k m l):=zH fun n A k m l t b0 w0 W L R h1 h2 h3=>dec_obs h1 h2 h3
  have HD:=zH (fun W=>rdecode2_any (Snp.E ⟨n,vs lo,t⟩).1 W (Nat.le_trans hl (by decide)))
  rw[hbk] at HO HD
  rw[decide_eq_true hok] at HRt
  have HSm:=zH (fun B2 k3 c3 b W h1 h2 h3=>apsame_yes n A B2 k c k3 c3 t lo b W h1 h2 h3)
  unfold IsB at HAw HRt HSm ⊢
  unfold IsBe at HE
  unfold IsDec at HD
  generalize Snp.E ⟨n,vs lo,t⟩=r at *
  obtain⟨a,e⟩:=r
  dsimp only at HE HD HO he
  subst he
  clear hs hf hfit hok hbk hl
  go_enter Tryz.func7,Tryz.ntmps7
  go_wp2_with (first|refine zX (kst HK 0 _ (by rfl) (by rfl) (by rfl)) ?_)
  refine(HE.out _ HK.out.b).mono ?_;rintro e wx ⟨rfl,bx⟩;replace HK:=hkC HK bx;clear bx
  go_wp2_with (first|refine zX (kst HK 0 _ (by rfl) (by rfl) (by rfl)) ?_)
  refine(HRt.out _ HK.out.b).mono ?_;rintro e wx ⟨rfl,bx⟩;replace HK:=hkC HK bx;clear bx
  go_wp2_with fail
  refine(HD.out _).mono ?_;rintro e w1 ⟨⟨n1,⟨A1,k1,c1,l1⟩,t1⟩,hx1,rfl,j1⟩;replace HK:=zH (HK.out.join j1);clear j1
  have HX1:=zH hx1
  obtain rfl:n1=n:=congrArg Ap.St.n hx1
  obtain rfl:t1=t:=congrArg Ap.St.t hx1
  have HV:Hid (vs lo=vs l1):=zH (congrArg Ap.St.l hx1).symm
  clear hx1
  unfold Sh.enc
  simp only[lnA] at HK
  dsimp only at HK ⊢
  go_wp2_with (first|(refine wpList_ast HK rfl rfl ?_;intro _ g1 HK';simp only[lcA,lnA,List.append_nil] at HK';replace HK:=HK';clear HK')|(refine wpList_sst HK 1 rfl _ _ rfl rfl rfl rfl ?_;intro _ HK';simp only[List.set] at HK';replace HK:=HK';clear HK'))
  refine(HAw.out _).mono ?_;rintro e wx ⟨rfl,bx⟩;replace HK:=hkC HK bx;clear bx
  go_wp2_with (first|refine zX (kst HK 0 _ (by rfl) (by rfl) (by rfl)) ?_|refine zX (kst HK 1 _ (by rfl) (by rfl) (by rfl)) ?_)
  refine(HSm.out _ _ _ _ _ (HS.out.later HK.out.b) (HO.out _ _ _ _ _ _ _ _ _ _ _ HX1.out HK.out (fun y hy=>hy)) HV.out).mono ?_;rintro e wx ⟨rfl,bx⟩;replace HK:=hkC HK bx;clear bx
  go_wp2_with fail
  go_ret
  exact⟨rfl,HK.out.b⟩
 ·rw[Snp.E_no hok] at HE
  rw[decide_eq_false hok] at HRt
  unfold IsB at HAw HRt ⊢
  unfold IsBe at HE
  clear hs hf hfit hok
  go_enter Tryz.func7,Tryz.ntmps7
  go_wp2_with (first|refine zX (kst HK 0 _ (by rfl) (by rfl) (by rfl)) ?_)
  refine(HE.out _ HK.out.b).mono ?_;rintro e wx ⟨rfl,bx⟩;replace HK:=hkC HK bx;clear bx
  go_wp2_with (first|refine zX (kst HK 0 _ (by rfl) (by rfl) (by rfl)) ?_)
  refine(HRt.out _ HK.out.b).mono ?_;rintro e wx ⟨rfl,bx⟩;replace HK:=hkC HK bx;clear bx
  go_wp2_with fail
  refine(HAw.out _).mono ?_;rintro e wx ⟨rfl,bx⟩;replace HK:=hkC HK bx;clear bx
  go_wp2_with fail
  go_ret
  exact⟨rfl,HK.out.b⟩
theorem sndecodes_yes(s:ByteArray)(w:World)(hs:s.size≤reachBytes):Lift.Yes Tryz.prog 6 #[.string s] w:=by
 have h:reachBytes=140737488351232:=by decide
 rw[h] at hs
 exact(sndecodes_any s w hs).mono fun e w' h=>h
end
end Go.Proofs.YtieoeendnccafaaGreat
