/- Arguments that are states, events with their numbers' bounds, or slices of these. No condition but those named. -/
import Derived.Test.YtddpmlcpfmmbeaaGreatTk
import Derived.Test.YtddpmlcpfmmbeaaGreatKBD
import Derived.Test.YtddpmlcpfmmbeaaGreatKBF
import Derived.Test.YtddpmlcpfmmbeaaGreatKBN
import Derived.Test.YtddpmlcpfmmbeaaGreatKAN
import Derived.Test.YtddpmlcpfmmbeaaGreatKAE
import Derived.Test.YtddpmlcpfmmbeaaGreatKAJ
import Derived.Test.YtddpmlcpfmmbeaaGreatKAK
import Derived.Test.YtddpmlcpfmmbeaaGreatKAV
import Derived.Test.YtddpmlcpfmmbeaaGreatKAD
import Derived.Test.YtddpmlcpfmmbeaaGreatKBI
import Derived.Test.YtddpmlcpfmmbeaaGreatKAG
import Derived.KernelRfl
import Derived.OpenShut
set_option linter.unusedSimpArgs false
set_option linter.unusedVariables false
set_option maxRecDepth 100000
set_option maxHeartbeats 25600000
namespace Go.Proofs.YtddpmlcpfmmbeaaGreat
section
namespace Ap
open Sto Ses
theorem leave_fit{s:St}(hf:Ses.Fit s.t)(c:Int):Ses.Fit (leaveS s c).t:=ends_fit (fun y hy=>prs_float (dropO_float _ _) y hy) (Ses.fit_close hf c)
theorem leave_few(s:St)(c:Int):(leaveO s c).length≤9:=leaveO_few s c (dropO_few _ _)
theorem go_fit{s:St}(hs:∀o∈s.l,FlOb o)(hf:Ses.Fit s.t)(e:Cmd.E):Ses.Fit (goS s e).t:=by
 have hd:=doo_float hs (ref e) e.cmd
 unfold goS
 split
 ·split
  ·exact leave_fit hf _
  ·exact hf
 split
 ·split
  ·refine Ses.fit_open ?_ _
   unfold left
   split
   ·exact leave_fit hf _
   ·exact hf
  ·unfold freshS
   split
   ·exact Ses.fit_end (Ses.fit_beg hf _) _ zf
   split
   ·exact leave_fit (s:=touch s (ref e)) (Ses.fit_end (Ses.fit_beg hf _) _ zf) _
   split
   ·exact Ses.fit_beg hf _
   ·exact ends_fit (fun y hy=>prs_float hd.2 y hy) (Ses.fit_end (Ses.fit_beg hf _) _ hd.1)
 ·exact hf
theorem ap_fit{s:St}(hs:∀o∈s.l,FlOb o)(hf:Ses.Fit s.t)(e:Cmd.E):Ses.Fit (apS s e).t:=by
 unfold apS
 split
 ·exact go_fit (s:=up s) hs hf e
 ·exact hf
theorem go_few(s:St)(e:Cmd.E):(goO s e).length≤10:=by
 unfold goO openO freshO
 repeat' split
 all_goals first
  | exact Nat.le_trans (leave_few _ _) (by decide)
  | exact Nat.zero_le _
  | exact Nat.succ_le_succ (leave_few _ _)
  | exact Nat.succ_le_succ (Nat.le_trans (doo_few _ _ _) (by decide))
  | (show 1≤10;decide)
theorem ap_few(s:St)(e:Cmd.E):(apO s e).length≤10:=by
 unfold apO
 split
 ·exact go_few _ e
 ·exact Nat.zero_le _
theorem ap_n(s:St)(e:Cmd.E):s.n≤(apS s e).n∧(apS s e).n≤s.n+1:=by
 unfold apS
 split
 ·rw[go_n]
  show s.n≤s.n+1∧s.n+1≤s.n+1
  omega
 ·omega
theorem all_snoc(s:St)(x:Cmd.E):∀l,all s (l++[x])=(apS (all s l).1 x,(all s l).2++apO (all s l).1 x)
 | []=>by show(apS s x,apO s x++[])=(apS s x,[]++apO s x);rw[List.append_nil];rfl
 | e::m=>by
  show((all (apS s e) (m++[x])).1,apO s e++(all (apS s e) (m++[x])).2)=_
  rw[all_snoc (apS s e) x m,← List.append_assoc]
  rfl
theorem all_more{s:St}{l:List Cmd.E}{i:Nat}{x:Cmd.E}(h:l[i]?=some x):all s (l.take (i+1))=(apS (all s (l.take i)).1 x,(all s (l.take i)).2++apO (all s (l.take i)).1 x):=by
 rw[List.take_add_one,h]
 exact all_snoc s x _
theorem all_n:∀(l:List Cmd.E) (s:St),s.n≤(all s l).1.n∧(all s l).1.n≤s.n+l.length
 | [],s=>by show s.n≤s.n∧s.n≤s.n+0;omega
 | e::m,s=>by
  have h1:=all_n m (apS s e)
  have h2:=ap_n s e
  show s.n≤(all (apS s e) m).1.n∧(all (apS s e) m).1.n≤s.n+((m.length+1:Nat):Int)
  omega
theorem all_few:∀(l:List Cmd.E) (s:St),(all s l).2.length≤10*l.length
 | [],s=>Nat.zero_le _
 | e::m,s=>by
  have h1:=all_few m (apS s e)
  have h2:=ap_few s e
  show(apO s e++(all (apS s e) m).2).length≤10*(m.length+1)
  rw[List.length_append]
  omega
theorem all_ok:∀(l:List Cmd.E) {s:St},Ok s→Ok (all s l).1
 | [],_,h=>h
 | e::m,s,h=>all_ok m (s:=apS s e) (ap_ok h e)
theorem all_good:∀(l:List Cmd.E) {s:St} {O:List Ot},Ok s→Good s.t O→Good (all s l).1.t (O++(all s l).2)
 | [],s,O,_,g=>by show Good s.t (O++[]);rw[List.append_nil];exact g
 | e::m,s,O,h,g=>by
  have h2:=all_good m (s:=apS s e) (ap_ok h e) (ap_good h e g)
  show Good (all (apS s e) m).1.t (O++(apO s e++(all (apS s e) m).2))
  rw[← List.append_assoc]
  exact h2
theorem all_one(l:List Cmd.E){x y:Ot}(hx:x∈(all s0 l).2)(hy:y∈(all s0 l).2)(h:x.r=y.r):x.p=y.p:=by
 have g:=all_good l (s:=s0) (O:=[]) ok_0 (Good.nil _)
 rw[lnA] at g
 exact g.one x hx y hy h
end Ap
end
section
open Go.ChangeShapes Go.WideShapes Go.Deep Go.RowKit
def cmL(c:Cmd.C):List Value:=
 [.int .i64 c.k,.string c.name,.string c.key,.int .i64 c.val.k,.int .i64 c.val.n,.int .u64 (c.val.f:Int),.string c.val.s,.int .i64 c.old.k,.int .i64 c.old.n,.int .u64 (c.old.f:Int),.string c.old.s,.int .i64 c.n,.int .i64 c.m]
section
variable {H:Type}{enc:TypeId×Value→H}{W:World}{base:Nat}{α:Type}
theorem cells_cmd:Tryz.prog.cellsOf 37=13:=by kernel_rfl
theorem opens_cmd:OpensT enc 37 cmL (fun c=>c.val.f<18446744073709551616∧c.old.f<18446744073709551616):=fun W n cs x ht=>by
 obtain⟨ys,m,_,hx,hlen,hyl,hf⟩:=DataW.trod_struct Tryz.underlying37 ht
 have hlen:cs.length=Tryz.prog.cellsOf 37:=hlen
 rw[cells_cmd] at hlen
 match cs,hlen,ys,hyl with
 | [v0,v1,v2,v3,v4,v5,v6,v7,v8,v9,v10,v11,v12],_,[y0,y1,y2,y3,y4,y5,y6],_=>
  have f0:=hf 0 _ rfl
  have f1:=hf 1 _ rfl
  have f2:=hf 2 _ rfl
  have f3:=hf 3 _ rfl
  have f4:=hf 4 _ rfl
  have f5:=hf 5 _ rfl
  have f6:=hf 6 _ rfl
  simp only[List.getElem?_cons_zero,List.getElem?_cons_succ] at f0 f1 f2 f3 f4 f5 f6
  obtain⟨a0,e0,_,_⟩:=DataW.trod_int Tryz.underlying3 f0
  obtain⟨a1,e1,_,_⟩:=DataW.trod_string Tryz.underlying9 f1
  obtain⟨a2,e2,_,_⟩:=DataW.trod_string Tryz.underlying9 f2
  obtain⟨a3,e3,w3⟩:=opens_val (enc:=enc) W _ _ _ f3
  obtain⟨a4,e4,w4⟩:=opens_val (enc:=enc) W _ _ _ f4
  obtain⟨a5,e5,_,_⟩:=DataW.trod_int Tryz.underlying3 f5
  obtain⟨a6,e6,_,_⟩:=DataW.trod_int Tryz.underlying3 f6
  cases e0;cases e1;cases e2;cases e3;cases e4;cases e5;cases e6
  exact⟨⟨a0,a1,a2,a3,a4,a5,a6⟩,rfl,w3,w4⟩
theorem Lift.Given.cmd{ts:List TypeId}{args:List Value}{ds:List (DataW H)}{before:List MemPlace}(h:Lift.Given enc Tryz.prog (37::ts) W base args ds before):
  ∃(x:Cmd.C) (vs:List Value) (d:DataW H) (ds':List (DataW H)) (q:List MemPlace),args=.agg (cmL x).toArray::vs∧ds=d::ds'∧(x.val.f<18446744073709551616∧x.old.f<18446744073709551616)∧Lift.Given enc Tryz.prog ts W base vs ds' q:=h.one opens_cmd Tryz.underlying37
end
end
section
open Go.ChangeShapes Go.WideShapes Go.Deep Go.RowKit
section
variable {H:Type}{enc:TypeId×Value→H}{W:World}{base:Nat}
theorem Lift.Given.mt{ts:List TypeId}{args:List Value}{ds:List (DataW H)}{before:List MemPlace}(h:Lift.Given enc Tryz.prog (58::ts) W base args ds before):
  ∃(x:Mtr) (vs:List Value) (d:DataW H) (ds':List (DataW H)) (q:List MemPlace),args=.agg (mL x).toArray::vs∧ds=d::ds'∧Mt.Fit x∧Lift.Given enc Tryz.prog ts W base vs ds' q:=h.one opens_mt Tryz.underlying58
end
end
section
open Go.ChangeShapes Go.WideShapes Go.Deep Go.RowKit
section
variable {H:Type}{enc:TypeId×Value→H}{P:Program}{W:World}{base:Nat}{α:Type}
def OpensW(enc:TypeId×Value→H)(W:World)(L:Lay P α)(Good:α→DataW H→Prop):Prop:=
 ∀(n:Nat) (cs:List Value) (x:DataW H×List MemPlace),DataW.trod enc P W 0 (fun _=>true) true n L.e cs=some x→∃it:α,cs=L.f it∧Good it x.1
theorem things_cells2{L:Lay P α}{Good:α→DataW H→Prop}(hop:Opens enc L Good)(hcells:P.cellsOf L.e=L.k)(hbytes:P.bytesOf L.e=L.bytes)
  {fuel:Nat} {cs:List Value} {d:DataW H} {p:List MemPlace} (h0:DataW.trod enc P W 0 (fun _=>true) true fuel L.t cs=some (d,p)) (hw:(d.weights P L.t).all (·≤reachBytes)=true) :
  ∃(A:Option Addr) (c:Nat) (l:List α),cs=[.slice A l.length c]∧L.Reads W W.heap.size A l∧(A=none→l=[])∧(∀x∈l,∃dx,Good x dx)∧l.length*L.bytes≤reachBytes∧l.length≤c:=by
 rcases open_slice L.und h0 with ⟨hcs,hx⟩|⟨a,len,cap,m,n,D,Pl,hcs,_,hl,hm,hmm,hx,hi⟩
 ·exact⟨none,0,[],hcs,Lay.Reads.nil _ _ _,fun _=>rfl,(fun x hx=>by cases hx),by simp,Nat.le_refl _⟩
 ·simp only[if_true] at hmm
  subst hmm
  cases hx
  have hall:∀i,i<m→∃it:α,(∀j u,(L.f it)[j]?=some u→W.cell? ((a.add (i*L.k)).add j)=some u)∧Good it (D i):=fun i him=>by
   obtain⟨cs,hc,ht⟩:=hi i him
   obtain⟨it,rfl,hg⟩:=hop W _ _ _ ht
   rw[hcells] at hc
   obtain⟨_,hcl,hat⟩:=World.cells?_some hc
   refine⟨it,fun j u hu=>?_,hg⟩
   have hj:=(List.getElem?_eq_some_iff.1 hu).1
   rw[L.len] at hj
   rw[hat j hj,hu]
  by_cases h0:len=0
  ·subst h0
   exact⟨some a,m,[],hcs,Lay.Reads.nil _ _ _,(fun h=>by cases h),(fun x hx=>by cases hx),by simp,Nat.zero_le _⟩
  have:Inhabited α:=⟨(hall 0 (by omega)).choose⟩
  obtain⟨f,hf⟩:=choose_lt hall
  have hlen:((List.range len).map f).length=len:=by simp
  have hget:∀i x,((List.range len).map f)[i]?=some x→i<len∧x=f i:=fun i x hx=>by
   rw[List.getElem?_map] at hx
   obtain⟨j,hj,rfl⟩:=Option.map_eq_some_iff.1 hx
   have hlt:i<len:=by
    rcases Nat.lt_or_ge i len with h|h
    ·exact h
    ·rw[List.getElem?_eq_none (by simpa using h)] at hj;cases hj
   rw[List.getElem?_range hlt] at hj
   cases hj
   exact⟨hlt,rfl⟩
  have hsome:∃u,W.cell? a=some u:=by
   have h1:=L.len (f 0)
   have h2:=L.pos
   obtain⟨u,hu⟩:=Lay.get_of (l:=L.f (f 0)) (k:=0) (by omega)
   have h3:=(hf 0 (by omega)).1 0 u hu
   simp only[Nat.zero_mul,Addr.add,if_true] at h3
   exact⟨u,h3⟩
  obtain⟨u0,hu0⟩:=hsome
  have ha:a=⟨a.block,a.off,none⟩:=by
   obtain⟨b,o,sp⟩:=a
   cases sp with
   | none=>rfl
   | some z=>unfold World.cell? at hu0;split at hu0<;>simp at hu0
  have hW:(DataW.weights P L.t (.slice ((List.range len).map D) ((List.range (m-len)).map fun j=>D (len+j)):DataW H)).all (·≤reachBytes)=true:=hw
  unfold DataW.weights at hW
  rw[L.und] at hW
  simp only[List.all_cons,List.all_append,Bool.and_eq_true,decide_eq_true_eq,List.length_map,List.length_range,hbytes] at hW
  obtain⟨hW1,_,_⟩:=hW
  refine⟨some a,m,(List.range len).map f,by rw[hlen];exact hcs,fun hp=>?_,(fun h=>by cases h),(fun x hx=>?_),?_,by rw[hlen];exact hl⟩
  ·refine⟨a.block,a.off,by rw[← ha],World.block_lt_of_cell? W a hu0,fun i x hx j u hu=>?_⟩
   obtain⟨hlt,rfl⟩:=hget i x hx
   have h1:=(hf i (by omega)).1 j u hu
   rw[ha,Lay.add_at,Lay.add_at] at h1
   exact h1
  ·obtain⟨i,hi',rfl⟩:=List.mem_map.1 hx
   exact⟨D i,(hf i (by have:=List.mem_range.1 hi';omega)).2⟩
  ·rw[hlen]
   exact Nat.le_trans (Nat.mul_le_mul_right _ (by omega)) hW1
end
section
variable {H:Type}{enc:TypeId×Value→H}{W:World}{base:Nat}
theorem cells_pr:Tryz.prog.cellsOf 85=5:=by kernel_rfl
theorem bytes_pr:Tryz.prog.bytesOf 85=56:=by kernel_rfl
theorem opens_pr:Opens enc prLay (fun p _=>p.val.f<18446744073709551616):=fun W n cs x ht=>by
 obtain⟨ys,m,_,hx,hlen,hyl,hf⟩:=DataW.trod_struct Tryz.underlying85 ht
 have hlen:cs.length=Tryz.prog.cellsOf 85:=hlen
 rw[cells_pr] at hlen
 match cs,hlen,ys,hyl with
 | [v0,v1,v2,v3,v4],_,[y0,y1],_=>
  have f0:=hf 0 _ rfl
  have f1:=hf 1 _ rfl
  simp only[List.getElem?_cons_zero,List.getElem?_cons_succ] at f0 f1
  obtain⟨a0,e0,_,_⟩:=DataW.trod_string Tryz.underlying9 f0
  obtain⟨a1,e1,w1⟩:=opens_val (enc:=enc) W _ _ _ f1
  cases e0;cases e1
  exact⟨⟨a0,a1⟩,rfl,w1⟩
theorem cells_ob:Tryz.prog.cellsOf 60=11:=by kernel_rfl
theorem bytes_ob:Tryz.prog.bytesOf 60=144:=by kernel_rfl
theorem reach_is:reachBytes=140737488351232:=rfl
theorem opens_ob:OpensW enc W obLay (fun x dx=>(dx.weights Tryz.prog 60).all (·≤reachBytes)=true→In W x):=fun n cs x ht=>by
 obtain⟨ys,m,_,hx,hlen,hyl,hf⟩:=DataW.trod_struct Tryz.underlying60 ht
 have hlen:cs.length=Tryz.prog.cellsOf 60:=hlen
 rw[cells_ob] at hlen
 match cs,hlen,ys,hyl with
 | [v0,v1,v2,v3,v4,v5,v6,v7,v8,v9,v10],_,[y0,y1,y2,(d3,p3),(d4,p4),(d5,p5),y6,y7],_=>
  have f0:=hf 0 _ rfl
  have f1:=hf 1 _ rfl
  have f2:=hf 2 _ rfl
  have f3:=hf 3 _ rfl
  have f4:=hf 4 _ rfl
  have f5:=hf 5 _ rfl
  have f6:=hf 6 _ rfl
  have f7:=hf 7 _ rfl
  simp only[List.getElem?_cons_zero,List.getElem?_cons_succ] at f0 f1 f2 f3 f4 f5 f6 f7
  obtain⟨a0,e0,_,_⟩:=DataW.trod_string Tryz.underlying9 f0
  obtain⟨a1,e1,_,_⟩:=DataW.trod_int Tryz.underlying3 f1
  obtain⟨a2,e2,_,_⟩:=DataW.trod_int Tryz.underlying3 f2
  obtain⟨a6,e6,_,w6⟩:=DataW.trod_int Tryz.underlying3 f6
  obtain⟨a7,e7,w7⟩:=opens_mt (enc:=enc) W _ _ _ f7
  have hd:x.1=.agg [y0.1,y1.1,y2.1,d3,d4,d5,y6.1,y7.1]:=congrArg Prod.fst hx
  by_cases hw:(x.1.weights Tryz.prog 60).all (·≤reachBytes)=true
  case neg=>
   have hs3:∃A n c,v3=.slice A n c:=by
    rcases open_slice Tryz.underlying54 f3 with ⟨hcs,_⟩|⟨a,len,cap,m,n,D,Pl,hcs,_⟩
    ·injection hcs with h;exact⟨_,_,_,h⟩
    ·injection hcs with h;exact⟨_,_,_,h⟩
   have hs4:∃A n c,v4=.slice A n c:=by
    rcases open_slice Tryz.underlying55 f4 with ⟨hcs,_⟩|⟨a,len,cap,m,n,D,Pl,hcs,_⟩
    ·injection hcs with h;exact⟨_,_,_,h⟩
    ·injection hcs with h;exact⟨_,_,_,h⟩
   have hs5:∃A n c,v5=.slice A n c:=by
    rcases open_slice Tryz.underlying56 f5 with ⟨hcs,_⟩|⟨a,len,cap,m,n,D,Pl,hcs,_⟩
    ·injection hcs with h;exact⟨_,_,_,h⟩
    ·injection hcs with h;exact⟨_,_,_,h⟩
   obtain⟨A3,n3,c3,rfl⟩:=hs3
   obtain⟨A4,n4,c4,rfl⟩:=hs4
   obtain⟨A5,n5,c5,rfl⟩:=hs5
   cases e0;cases e1;cases e2;cases e6;cases e7
   exact⟨⟨⟨a0,a1,a2,[],[],[],a6,a7⟩,A3,n3,c3,A4,n4,c4,A5,n5,c5⟩,rfl,fun h=>absurd h hw⟩
  case pos=>
   have hw2:=hw
   rw[hd] at hw2
   unfold DataW.weights at hw2
   rw[Tryz.underlying60] at hw2
   simp only[List.map_cons,List.map_nil,DataW.weightsEach,List.all_append,Bool.and_eq_true] at hw2
   obtain⟨_,_,_,hw3,hw4,hw5,_⟩:=hw2
   obtain⟨A3,c3,l3,hc3,r3,n3,g3,b3,k3⟩:=things_cells2 (L:=prLay) opens_pr cells_pr bytes_pr (cs:=[v3]) f3 hw3
   obtain⟨A4,c4,l4,hc4,r4,n4,g4,b4,k4⟩:=things_cells2 (L:=vaLay) opens_vas cells_val bytes_val (cs:=[v4]) f4 hw4
   obtain⟨A5,c5,l5,hc5,r5,n5,g5,b5,k5⟩:=things_cells2 (L:=rfLay) opens_rf cells_rf bytes_rf (cs:=[v5]) f5 hw5
   injection hc3 with hc3
   injection hc4 with hc4
   injection hc5 with hc5
   subst hc3 hc4 hc5
   cases e0;cases e1;cases e2;cases e6;cases e7
   refine⟨⟨⟨a0,a1,a2,l3,l4,l5,a6,a7⟩,A3,l3.length,c3,A4,l4.length,c4,A5,l5.length,c5⟩,rfl,fun _=>⟨?_,?_,?_,w7,by have:=bounds_i64 w6;show a6≤_;omega⟩⟩
   ·refine Sls.sl ⟨rfl,k3,r3,n3,fun y hy=>?_,?_⟩
    ·obtain⟨_,g⟩:=g3 y hy;exact g
    ·have h:l3.length*56≤reachBytes:=b3
     rw[reach_is] at h
     show l3.length*56≤_
     omega
   ·refine⟨rfl,k4,r4,n4,fun y hy=>?_,?_⟩
    ·obtain⟨_,g⟩:=g4 y hy;exact g
    ·have h:l4.length*40≤reachBytes:=b4
     rw[reach_is] at h
     show l4.length*40≤_
     omega
   ·refine⟨rfl,k5,r5,n5,fun y hy=>trivial,?_⟩
    have h:l5.length*24≤reachBytes:=b5
    rw[reach_is] at h
    show l5.length*24≤_
    omega
end
end
section
open Go.ChangeShapes Go.WideShapes Go.Deep Go.RowKit
def evL(e:Cmd.E):List Value:=
 [.int .i64 e.c,.int .i64 e.e,.int .i64 e.r,.int .i64 e.cmd.k,.string e.cmd.name,.string e.cmd.key,.int .i64 e.cmd.val.k,.int .i64 e.cmd.val.n,.int .u64 (e.cmd.val.f:Int),.string e.cmd.val.s,.int .i64 e.cmd.old.k,.int .i64 e.cmd.old.n,.int .u64 (e.cmd.old.f:Int),.string e.cmd.old.s,.int .i64 e.cmd.n,.int .i64 e.cmd.m]
theorem info_evl:(Tryz.prog.info? 39).map (fun i=>(i.zero,i.size,i.bytes))=some (some (Value.agg #[.int .i64 0,.int .i64 0,.int .i64 0,.int .i64 0,.string ⟨#[]⟩,.string ⟨#[]⟩,.int .i64 0,.int .i64 0,.int .u64 0,.string ⟨#[]⟩,.int .i64 0,.int .i64 0,.int .u64 0,.string ⟨#[]⟩,.int .i64 0,.int .i64 0]),16,160):=by kernel_rfl
def evLay:Lay Tryz.prog Cmd.E where
 t:=49
 e:=39
 k:=16
 bytes:=160
 z:=.agg #[.int .i64 0,.int .i64 0,.int .i64 0,.int .i64 0,.string ⟨#[]⟩,.string ⟨#[]⟩,.int .i64 0,.int .i64 0,.int .u64 0,.string ⟨#[]⟩,.int .i64 0,.int .i64 0,.int .u64 0,.string ⟨#[]⟩,.int .i64 0,.int .i64 0]
 f:=evL
 len:=fun _=>rfl
 one:=fun x u hu=>by
  unfold evL at hu
  simp only[List.mem_cons,List.not_mem_nil,or_false] at hu
  rcases hu with rfl|rfl|rfl|rfl|rfl|rfl|rfl|rfl|rfl|rfl|rfl|rfl|rfl|rfl|rfl|rfl<;>rfl
 und:=Tryz.underlying49
 info:=info_evl
 zs:=rfl
 pos:=by decide
 small:=by decide
section
variable {H:Type}{enc:TypeId×Value→H}{W:World}{base:Nat}{α:Type}
theorem cells_ref:Tryz.prog.cellsOf 35=3:=by kernel_rfl
theorem cells_ev:Tryz.prog.cellsOf 39=16:=by kernel_rfl
theorem bytes_ev:Tryz.prog.bytesOf 39=160:=by kernel_rfl
theorem opens_ref:OpensT enc 35 (fun r:Int×Int×Int=>[.int .i64 r.1,.int .i64 r.2.1,.int .i64 r.2.2]) (fun _=>True):=fun W n cs x ht=>by
 obtain⟨ys,m,_,hx,hlen,hyl,hf⟩:=DataW.trod_struct Tryz.underlying35 ht
 have hlen:cs.length=Tryz.prog.cellsOf 35:=hlen
 rw[cells_ref] at hlen
 match cs,hlen,ys,hyl with
 | [v0,v1,v2],_,[y0,y1,y2],_=>
  have f0:=hf 0 _ rfl
  have f1:=hf 1 _ rfl
  have f2:=hf 2 _ rfl
  simp only[List.getElem?_cons_zero,List.getElem?_cons_succ] at f0 f1 f2
  obtain⟨a0,e0,_,_⟩:=DataW.trod_int Tryz.underlying3 f0
  obtain⟨a1,e1,_,_⟩:=DataW.trod_int Tryz.underlying3 f1
  obtain⟨a2,e2,_,_⟩:=DataW.trod_int Tryz.underlying3 f2
  cases e0;cases e1;cases e2
  exact⟨(a0,a1,a2),rfl,trivial⟩
theorem opens_evt:OpensT enc 39 evL (fun e=>e.cmd.val.f<18446744073709551616∧e.cmd.old.f<18446744073709551616):=fun W n cs x ht=>by
 obtain⟨ys,m,_,hx,hlen,hyl,hf⟩:=DataW.trod_struct Tryz.underlying39 ht
 have hlen:cs.length=Tryz.prog.cellsOf 39:=hlen
 rw[cells_ev] at hlen
 match cs,hlen,ys,hyl with
 | [v0,v1,v2,v3,v4,v5,v6,v7,v8,v9,v10,v11,v12,v13,v14,v15],_,[y0,y1],_=>
  have f0:=hf 0 _ rfl
  have f1:=hf 1 _ rfl
  simp only[List.getElem?_cons_zero,List.getElem?_cons_succ] at f0 f1
  obtain⟨⟨a0,a1,a2⟩,e0,_⟩:=opens_ref (enc:=enc) W _ _ _ f0
  obtain⟨a3,e1,w3⟩:=opens_cmd (enc:=enc) W _ _ _ f1
  cases e0;cases e1
  exact⟨⟨a0,a1,a2,a3⟩,rfl,w3⟩
theorem Lift.Given.ev{ts:List TypeId}{args:List Value}{ds:List (DataW H)}{before:List MemPlace}(h:Lift.Given enc Tryz.prog (39::ts) W base args ds before):
  ∃(x:Cmd.E) (vs:List Value) (d:DataW H) (ds':List (DataW H)) (q:List MemPlace),args=.agg (evL x).toArray::vs∧ds=d::ds'∧(x.cmd.val.f<18446744073709551616∧x.cmd.old.f<18446744073709551616)∧Lift.Given enc Tryz.prog ts W base vs ds' q:=h.one opens_evt Tryz.underlying39
end
end
section
open Go.ChangeShapes Go.WideShapes Go.Deep Go.RowKit
section
variable {H:Type}{enc:TypeId×Value→H}{W:World}{base:Nat}
theorem opens_rfb:OpensT enc 35 rfL (fun x=>x.r≤9223372036854775807):=fun W n cs x ht=>by
 obtain⟨ys,m,_,hx,hlen,hyl,hf⟩:=DataW.trod_struct Tryz.underlying35 ht
 have hlen:cs.length=Tryz.prog.cellsOf 35:=hlen
 rw[cells_rf] at hlen
 match cs,hlen,ys,hyl with
 | [v0,v1,v2],_,[y0,y1,y2],_=>
  have f0:=hf 0 _ rfl
  have f1:=hf 1 _ rfl
  have f2:=hf 2 _ rfl
  simp only[List.getElem?_cons_zero,List.getElem?_cons_succ] at f0 f1 f2
  obtain⟨a0,e0,_,_⟩:=DataW.trod_int Tryz.underlying3 f0
  obtain⟨a1,e1,_,_⟩:=DataW.trod_int Tryz.underlying3 f1
  obtain⟨a2,e2,_,w2⟩:=DataW.trod_int Tryz.underlying3 f2
  cases e0;cases e1;cases e2
  exact⟨⟨a0,a1,a2⟩,rfl,by have:=bounds_i64 w2;show a2≤_;omega⟩
def seL(s:Ses.S):List Value:=[.bool s.live,.int .i64 s.ep,.int .i64 s.rq,.bool s.dn,.int .i64 s.p.e,.int .i64 s.p.v.k,.int .i64 s.p.v.n,.int .u64 (s.p.v.f:Int),.string s.p.v.s]
theorem cells_ses:Tryz.prog.cellsOf 30=9:=by kernel_rfl
theorem cells_tab:Tryz.prog.cellsOf 31=45:=by kernel_rfl
theorem opens_se:OpensT enc 30 seL (fun s=>s.p.v.f<18446744073709551616):=fun W n cs x ht=>by
 obtain⟨ys,m,_,hx,hlen,hyl,hf⟩:=DataW.trod_struct Tryz.underlying30 ht
 have hlen:cs.length=Tryz.prog.cellsOf 30:=hlen
 rw[cells_ses] at hlen
 match cs,hlen,ys,hyl with
 | [v0,v1,v2,v3,v4,v5,v6,v7,v8],_,[y0,y1,y2,y3,y4],_=>
  have f0:=hf 0 _ rfl
  have f1:=hf 1 _ rfl
  have f2:=hf 2 _ rfl
  have f3:=hf 3 _ rfl
  have f4:=hf 4 _ rfl
  simp only[List.getElem?_cons_zero,List.getElem?_cons_succ] at f0 f1 f2 f3 f4
  obtain⟨a0,e0,_⟩:=DataW.trod_bool Tryz.underlying4 f0
  obtain⟨a1,e1,_,_⟩:=DataW.trod_int Tryz.underlying3 f1
  obtain⟨a2,e2,_,_⟩:=DataW.trod_int Tryz.underlying3 f2
  obtain⟨a3,e3,_⟩:=DataW.trod_bool Tryz.underlying4 f3
  obtain⟨a4,e4,w4⟩:=opens_rp (enc:=enc) W _ _ _ f4
  cases e0;cases e1;cases e2;cases e3;cases e4
  exact⟨⟨a0,a1,a2,a3,a4⟩,rfl,w4⟩
theorem nine_of{l:List Value}(h:l.length=45)(f:Nat→Ses.S)(hf:∀i,i<5→(l.drop (i*9)).take 9=seL (f i)):l=seL (f 0)++(seL (f 1)++(seL (f 2)++(seL (f 3)++seL (f 4)))):=by
 have cut:∀k,(l.drop k).take 9++l.drop (k+9)=l.drop k:=fun k=>by
  rw[← List.drop_drop]
  exact List.take_append_drop 9 (l.drop k)
 have last:(l.drop 36).take 9=l.drop 36:=List.take_of_length_le (by rw[List.length_drop];omega)
 rw[← hf 0 (by decide),← hf 1 (by decide),← hf 2 (by decide),← hf 3 (by decide),← hf 4 (by decide)]
 have c0:=cut 0
 have c1:=cut 9
 have c2:=cut 18
 have c3:=cut 27
 simp only[Nat.reduceMul,Nat.reduceAdd,Nat.zero_mul,Nat.zero_add] at c0 c1 c2 c3 ⊢
 rw[last,c3,c2,c1,c0]
 rfl
theorem opens_tab:OpensT enc 31 (fun t=>(tbA t).toList) Ses.Fit:=fun W n cs x ht=>by
 obtain⟨xs,m,_,hx,hlen,hxl,hel⟩:=DataW.trod_array Tryz.underlying31 ht
 rw[cells_tab] at hlen
 rw[cells_ses] at hel
 have hall:∀i,i<5→∃s:Ses.S,(cs.drop (i*9)).take 9=seL s∧s.p.v.f<18446744073709551616:=fun i hi=>by
  have h1:=hel i hi
  rw[List.getElem?_eq_getElem (by omega)] at h1
  obtain⟨s,e,g⟩:=opens_se (enc:=enc) W _ _ _ h1
  exact⟨s,e,g⟩
 have:Inhabited Ses.S:=⟨Ses.z⟩
 obtain⟨f,hf⟩:=choose_lt hall
 refine⟨⟨f 0,f 1,f 2,f 3,f 4⟩,(nine_of hlen f (fun i hi=>(hf i hi).1)).trans rfl,fun c hc=>?_⟩
 rcases Ses.cases5 hc with rfl|rfl|rfl|rfl|rfl
 ·exact(hf 0 (by decide)).2
 ·exact(hf 1 (by decide)).2
 ·exact(hf 2 (by decide)).2
 ·exact(hf 3 (by decide)).2
 ·exact(hf 4 (by decide)).2
end
end
section
open Go.ChangeShapes Go.WideShapes Go.Deep Go.RowKit
def eF(e:Cmd.E):Prop:=e.cmd.val.f<18446744073709551616∧e.cmd.old.f<18446744073709551616∧e.r≤9223372036854775807
section
variable {H:Type}{enc:TypeId×Value→H}{P:Program}{W:World}{base:Nat}{α:Type}
theorem things_cellsW{L:Lay P α}{Good:α→DataW H→Prop}(hop:OpensW enc W L Good)(hcells:P.cellsOf L.e=L.k)(hbytes:P.bytesOf L.e=L.bytes)
  {fuel:Nat} {cs:List Value} {d:DataW H} {p:List MemPlace} (h0:DataW.trod enc P W 0 (fun _=>true) true fuel L.t cs=some (d,p)) (hw:(d.weights P L.t).all (·≤reachBytes)=true) :
  ∃(A:Option Addr) (c:Nat) (l:List α),cs=[.slice A l.length c]∧L.Reads W W.heap.size A l∧(A=none→l=[])∧(∀x∈l,∃dx,Good x dx∧(dx.weights P L.e).all (·≤reachBytes)=true)∧l.length*L.bytes≤reachBytes∧l.length≤c:=by
 rcases open_slice L.und h0 with ⟨hcs,hx⟩|⟨a,len,cap,m,n,D,Pl,hcs,_,hl,hm,hmm,hx,hi⟩
 ·exact⟨none,0,[],hcs,Lay.Reads.nil _ _ _,fun _=>rfl,(fun x hx=>by cases hx),by simp,Nat.le_refl _⟩
 ·simp only[if_true] at hmm
  subst hmm
  cases hx
  have hall:∀i,i<m→∃it:α,(∀j u,(L.f it)[j]?=some u→W.cell? ((a.add (i*L.k)).add j)=some u)∧Good it (D i):=fun i him=>by
   obtain⟨cs,hc,ht⟩:=hi i him
   obtain⟨it,rfl,hg⟩:=hop _ _ _ ht
   rw[hcells] at hc
   obtain⟨_,hcl,hat⟩:=World.cells?_some hc
   refine⟨it,fun j u hu=>?_,hg⟩
   have hj:=(List.getElem?_eq_some_iff.1 hu).1
   rw[L.len] at hj
   rw[hat j hj,hu]
  by_cases h0:len=0
  ·subst h0
   exact⟨some a,m,[],hcs,Lay.Reads.nil _ _ _,(fun h=>by cases h),(fun x hx=>by cases hx),by simp,Nat.zero_le _⟩
  have:Inhabited α:=⟨(hall 0 (by omega)).choose⟩
  obtain⟨f,hf⟩:=choose_lt hall
  have hlen:((List.range len).map f).length=len:=by simp
  have hget:∀i x,((List.range len).map f)[i]?=some x→i<len∧x=f i:=fun i x hx=>by
   rw[List.getElem?_map] at hx
   obtain⟨j,hj,rfl⟩:=Option.map_eq_some_iff.1 hx
   have hlt:i<len:=by
    rcases Nat.lt_or_ge i len with h|h
    ·exact h
    ·rw[List.getElem?_eq_none (by simpa using h)] at hj;cases hj
   rw[List.getElem?_range hlt] at hj
   cases hj
   exact⟨hlt,rfl⟩
  have hsome:∃u,W.cell? a=some u:=by
   have h1:=L.len (f 0)
   have h2:=L.pos
   obtain⟨u,hu⟩:=Lay.get_of (l:=L.f (f 0)) (k:=0) (by omega)
   have h3:=(hf 0 (by omega)).1 0 u hu
   simp only[Nat.zero_mul,Addr.add,if_true] at h3
   exact⟨u,h3⟩
  obtain⟨u0,hu0⟩:=hsome
  have ha:a=⟨a.block,a.off,none⟩:=by
   obtain⟨b,o,sp⟩:=a
   cases sp with
   | none=>rfl
   | some z=>unfold World.cell? at hu0;split at hu0<;>simp at hu0
  have hW:(DataW.weights P L.t (.slice ((List.range len).map D) ((List.range (m-len)).map fun j=>D (len+j)):DataW H)).all (·≤reachBytes)=true:=hw
  unfold DataW.weights at hW
  rw[L.und] at hW
  simp only[List.all_cons,List.all_append,Bool.and_eq_true,decide_eq_true_eq,List.length_map,List.length_range,hbytes] at hW
  obtain⟨hW1,hW2,_⟩:=hW
  refine⟨some a,m,(List.range len).map f,by rw[hlen];exact hcs,fun hp=>?_,(fun h=>by cases h),(fun x hx=>?_),?_,by rw[hlen];exact hl⟩
  ·refine⟨a.block,a.off,by rw[← ha],World.block_lt_of_cell? W a hu0,fun i x hx j u hu=>?_⟩
   obtain⟨hlt,rfl⟩:=hget i x hx
   have h1:=(hf i (by omega)).1 j u hu
   rw[ha,Lay.add_at,Lay.add_at] at h1
   exact h1
  ·obtain⟨i,hi',rfl⟩:=List.mem_map.1 hx
   have hD:D i∈(List.range len).map D:=List.mem_map.2 ⟨i,hi',rfl⟩
   exact⟨D i,(hf i (by have:=List.mem_range.1 hi';omega)).2,List.all_eq_true.2 fun n hn=>List.all_eq_true.1 hW2 n (weightsAll_mem hn hD)⟩
  ·rw[hlen]
   exact Nat.le_trans (Nat.mul_le_mul_right _ (by omega)) hW1
end
section
variable {H:Type}{enc:TypeId×Value→H}{W:World}{base:Nat}
theorem cells_st:Tryz.prog.cellsOf 33=47:=by kernel_rfl
theorem Lift.Given.state{ts:List TypeId}{args:List Value}{ds:List (DataW H)}{before:List MemPlace}(h:Lift.Given enc Tryz.prog (33::ts) W base args ds before):
  ∃(n:Int) (A:Option Addr) (c:Nat) (l:List Oh) (t:Ses.T) (vs:List Value) (d:DataW H) (ds':List (DataW H)) (q:List MemPlace),args=.agg (stA n A l.length c t)::vs∧ds=d::ds'∧(-9223372036854775808≤n∧n≤9223372036854775807)∧Obs W A l.length c l∧Ses.Fit t∧Lift.Given enc Tryz.prog ts W base vs ds' q:=by
 obtain⟨v,vs,d,ds',p,q,rfl,rfl,rfl,h0,hok,_,hw,hg⟩:=h.cons
 obtain⟨fuel,h0⟩:=h0
 obtain⟨cs,rfl,hsz⟩:=okWide_struct Tryz.underlying33 hok
 have hcl:(Value.agg cs).cells.toList=cs.toList:=by simp[Value.cells]
 rw[hcl] at h0
 obtain⟨ys,m,_,hx,hlen,hyl,hf⟩:=DataW.trod_struct Tryz.underlying33 h0
 have hlen:cs.toList.length=Tryz.prog.cellsOf 33:=hlen
 rw[cells_st] at hlen
 obtain⟨cl⟩:=cs
 match cl,hlen,ys,hyl with
 | v0::v1::rest,hlen,[y0,(d1,p1),y2],_=>
  have hrl:rest.length=45:=by
   have h:rest.length+1+1=47:=hlen
   omega
  have f0:=hf 0 _ rfl
  have f1:=hf 1 _ rfl
  have f2:=hf 2 _ rfl
  simp only[List.getElem?_cons_zero,List.getElem?_cons_succ] at f0 f1 f2
  obtain⟨n,e0,w0,w1⟩:=DataW.trod_int Tryz.underlying3 f0
  obtain⟨t,e2,w2⟩:=opens_tab (enc:=enc) W _ _ _ f2
  have hd:d=.agg [y0.1,d1,y2.1]:=congrArg Prod.fst hx
  rw[hd] at hw
  unfold DataW.weights at hw
  rw[Tryz.underlying33] at hw
  simp only[List.map_cons,List.map_nil,DataW.weightsEach,List.all_append,Bool.and_eq_true] at hw
  obtain⟨_,hw1,_⟩:=hw
  obtain⟨A,c,l,hc,rd,nl,gd,bd,kd⟩:=things_cellsW (L:=obLay) opens_ob cells_ob bytes_ob (cs:=[v1]) f1 hw1
  injection hc with hc
  subst hc
  have hb:l.length*144≤reachBytes:=bd
  rw[reach_is] at hb
  have e3:rest=(tbA t).toList:=by
   refine Eq.trans ?_ e2
   show rest=rest.take (Tryz.prog.cellsOf 31)
   rw[cells_tab,List.take_of_length_le (by omega)]
  have hv:(⟨v0::.slice A l.length c::rest⟩:Array Value)=stA n A l.length c t:=by
   cases e0
   rw[e3]
   rfl
  refine⟨n,A,c,l,t,vs,d,ds',q,by rw[hv],rfl,?_,⟨⟨rfl,kd,rd,nl,fun x hx=>trivial,by show l.length*144≤_;omega⟩,fun x hx=>?_⟩,w2,hg⟩
  ·have:=bounds_i64 w1
   exact⟨by omega,by omega⟩
  ·obtain⟨dx,g,hwx⟩:=gd x hx
   exact g hwx
theorem opens_evb:OpensT enc 39 evL eF:=fun W n cs x ht=>by
 obtain⟨ys,m,_,hx,hlen,hyl,hf⟩:=DataW.trod_struct Tryz.underlying39 ht
 have hlen:cs.length=Tryz.prog.cellsOf 39:=hlen
 rw[cells_ev] at hlen
 match cs,hlen,ys,hyl with
 | [v0,v1,v2,v3,v4,v5,v6,v7,v8,v9,v10,v11,v12,v13,v14,v15],_,[y0,y1],_=>
  have f0:=hf 0 _ rfl
  have f1:=hf 1 _ rfl
  simp only[List.getElem?_cons_zero,List.getElem?_cons_succ] at f0 f1
  obtain⟨⟨a0,a1,a2⟩,e0,w0⟩:=opens_rfb (enc:=enc) W _ _ _ f0
  obtain⟨a3,e1,w3⟩:=opens_cmd (enc:=enc) W _ _ _ f1
  cases e0;cases e1
  exact⟨⟨a0,a1,a2,a3⟩,rfl,w3.1,w3.2,w0⟩
theorem opens_evs:Opens enc evLay (fun e _=>eF e):=fun W n cs x ht=>opens_evb W n cs x ht
theorem Lift.Given.evb{ts:List TypeId}{args:List Value}{ds:List (DataW H)}{before:List MemPlace}(h:Lift.Given enc Tryz.prog (39::ts) W base args ds before):
  ∃(x:Cmd.E) (vs:List Value) (d:DataW H) (ds':List (DataW H)) (q:List MemPlace),args=.agg (evL x).toArray::vs∧ds=d::ds'∧eF x∧Lift.Given enc Tryz.prog ts W base vs ds' q:=h.one opens_evb Tryz.underlying39
theorem Lift.Given.evsb{ts:List TypeId}{args:List Value}{ds:List (DataW H)}{before:List MemPlace}(h:Lift.Given enc Tryz.prog (49::ts) W base args ds before):
  ∃(A:Option Addr) (c:Nat) (l:List Cmd.E) (vs:List Value) (d:DataW H) (ds':List (DataW H)) (q:List MemPlace),args=.slice A l.length c::vs∧ds=d::ds'∧Sls evLay eF W A l.length c l∧Lift.Given enc Tryz.prog ts W base vs ds' q:=by
 obtain⟨A,c,l,vs,d,ds',q,h1,h2,h3,h4,h5,h6,_,h8,h9⟩:=h.things (L:=evLay) opens_evs cells_ev bytes_ev
 have hb:l.length*160≤reachBytes:=h6
 rw[reach_is] at hb
 refine⟨A,c,l,vs,d,ds',q,h1,h2,⟨rfl,h8,h3,h4,fun x hx=>?_,?_⟩,h9⟩
 ·obtain⟨_,g⟩:=h5 x hx
  exact g.1
 ·show l.length*160≤_
  omega
end
end
end Go.Proofs.YtddpmlcpfmmbeaaGreat
