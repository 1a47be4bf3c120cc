/- A state's items, and what stands at the head of a list of items. No condition but those named. -/
import Derived.Test.YtahdlddbbnjloaaGreatNAE
import Derived.Test.YtahdlddbbnjloaaGreatNAC
set_option linter.unusedSimpArgs false
set_option linter.unusedVariables false
set_option maxRecDepth 100000
set_option maxHeartbeats 25600000
open Go.RowKit
namespace Go.Proofs.YtahdlddbbnjloaaGreat
open _root_.Go.Proofs.Tryz
section
open Go.ChangeShapes Go.WideShapes Go.Deep Go.RowKit
namespace ny
structure It where
 k:Int
 n:Int
 s:ByteArray
def emp:ByteArray:=⟨#[]⟩
end ny
theorem QT:(prog.info? 81).map (fun i=>(i.zero,i.size,i.bytes))=some (some (Value.agg #[.int .i64 0,.int .i64 0,.string ⟨#[]⟩]),3,32):=by kernel_rfl
def aD:Lay prog ny.It where
 t:=53
 e:=81
 k:=3
 bytes:=32
 z:=.agg #[.int .i64 0,.int .i64 0,.string ⟨#[]⟩]
 f:=fun x=>[.int .i64 x.k,.int .i64 x.n,.string x.s]
 len:=fun _=>rfl
 one:=fun x u hu=>by
  simp only[List.mem_cons,List.not_mem_nil,or_false] at hu
  rcases hu with rfl|rfl|rfl<;>rfl
 und:=underlying53
 info:=QT
 zs:=rfl
 pos:=by decide
 small:=by decide
theorem ug{w:World}{b o i:Nat}{x:ny.It}(h:aD.At w b o i x):w.cell? ⟨b,o+i*3,none⟩=some (.int .i64 x.k)∧w.cell? ⟨b,o+i*3+1,none⟩=some (.int .i64 x.n)∧w.cell? ⟨b,o+i*3+2,none⟩=some (.string x.s):=
 ⟨h 0 _ rfl,h 1 _ rfl,h 2 _ rfl⟩
section
variable {H:Type}{enc:TypeId×Value→H}{W:World}{base:Nat}
theorem BQ:prog.cellsOf 81=3:=by kernel_rfl
theorem ME:prog.bytesOf 81=32:=by kernel_rfl
def Ya(it:ny.It)(d:DataW H):Prop:=(Lit.int .i64 it.k).wf=true∧(Lit.int .i64 it.n).wf=true∧d=.agg [.lit (.int .i64 it.k),.lit (.int .i64 it.n),.lit (.string it.s.data.toList)]
theorem Le:Opens enc aD Ya:=fun W n cs x ht=>by
 obtain⟨ys,m,_,hx,hlen,hyl,hf⟩:=DataW.trod_struct underlying81 ht;have hlen:cs.length=prog.cellsOf 81:=hlen;rw[BQ] at hlen
 match cs,hlen,ys,hyl with
 | [v0,v1,v2],_,[y0,y1,y2],_=>
  have f0:=hf 0 _ rfl;have f1:=hf 1 _ rfl;have f2:=hf 2 _ rfl;simp only[List.getElem?_cons_zero,List.getElem?_cons_succ] at f0 f1 f2;obtain⟨k,e0,g0,w0⟩:=DataW.trod_int underlying3 f0;obtain⟨q,e1,g1,w1⟩:=DataW.trod_int underlying3 f1;obtain⟨s,e2,g2,w2⟩:=DataW.trod_string underlying9 f2;cases e0;cases e1;cases e2;subst g0 g1 g2;exact⟨⟨k,q,s⟩,rfl,w0,w1,by rw[hx];rfl⟩
theorem KL{k n:Int}{s:ByteArray}(h:((DataW.agg [.lit (.int .i64 k),.lit (.int .i64 n),.lit (.string s.data.toList)]:DataW H).weights prog 81).all (·≤reachBytes)=true):s.size≤reachBytes:=by
 have hs:s.data.toList.length∈(DataW.agg [.lit (.int .i64 k),.lit (.int .i64 n),.lit (.string s.data.toList)]:DataW H).weights prog 81:=by
  unfold DataW.weights;rw[underlying81];simp[DataW.weightsEach,DataW.weights]
 have:=of_decide_eq_true (List.all_eq_true.1 h _ hs)
 rwa [Array.length_toList] at this
theorem Lift.Given.items{ts:List TypeId}{args:List Value}{ds:List (DataW H)}{before:List MemPlace}(h:Lift.Given enc prog (53::ts) W base args ds before):
  ∃(A:Option Addr) (c:Nat) (l:List ny.It) (vs:List Value) (d:DataW H) (ds':List (DataW H)) (q:List MemPlace),args=.slice A l.length c::vs∧ds=d::ds'∧aD.Reads W W.heap.size A l∧(A=none→l=[])∧
   (∀x∈l,(Lit.int .i64 x.k).wf=true∧(Lit.int .i64 x.n).wf=true∧x.s.size≤reachBytes∧x.s.size≤Rows.uptoBulk d)∧l.length*32≤reachBytes∧l.length≤Rows.uptoBulk d∧l.length≤c∧Lift.Given enc prog ts W base vs ds' q:=by
 obtain⟨A,c,l,vs,d,ds',q,h1,h2,h3,h4,h5,h6⟩:=h.things (L:=aD) Le BQ ME;refine⟨A,c,l,vs,d,ds',q,h1,h2,h3,h4,fun x hx=>?_,h6⟩;obtain⟨dx,⟨g1,g2,g3⟩,g4,g5⟩:=h5 x hx;rw[g3] at g4 g5;refine⟨g1,g2,KL g4,Nat.le_trans ?_ g5⟩;simp only[Rows.uptoBulk,Rows.uptoBulkAll,Array.length_toList]
 show x.s.data.size≤_
 omega
end
end
section
namespace Val
def items(v:V):List ny.It:=⟨0,v.k,emp⟩ ::
 (if v.k=1 then [⟨0,v.n,emp⟩] else if v.k=2 then [⟨0,sg v.f,emp⟩] else if v.k=3 then [⟨1,0,v.s⟩] else [])
def take:List ny.It→V
 | []=>zero
 | [x]=>⟨x.n,0,0,emp⟩
 | x::y::_=>⟨x.n,if x.n=1 then y.n else 0,if x.n=2 then us y.n else 0,if x.n=3 then y.s else emp⟩
theorem Kk{v:V}(h:aX v=0)(hf:v.f<18446744073709551616)(r:List ny.It):take (items v++r)=v∨(v.k=0):=by
 rcases sU h with e|e|⟨e,hm⟩|⟨e,hs⟩
 ·right;rw[e]
 ·left;rw[e];rfl
 ·left;rw[e]
  show(⟨2,0,us (sg v.f),emp⟩:V)=_
  rw[acV hf]
 ·left;rw[e];rfl
theorem Po(r:List ny.It):take (items zero++r)=zero:=by
 cases r<;>rfl
theorem Tt{v:V}(h:aX v=0)(hf:v.f<18446744073709551616)(r:List ny.It):take (items v++r)=v:=by
 rcases Kk h hf r with e|e
 ·exact e
 ·rcases sU h with e2|e2|⟨e2,_⟩|⟨e2,_⟩
  ·rw[e2];exact Po r
  ·rw[e2] at e;cases e
  ·rw[e2] at e;cases e
  ·rw[e2] at e;cases e
end Val
end
section
namespace aA
abbrev Its:=List ny.It
def n1(n:Int):ny.It:=⟨0,n,Val.emp⟩
def t1(s:ByteArray):ny.It:=⟨1,0,s⟩
def fl(b:Bool):ny.It:=n1 (if b=true then 1 else 0)
def many{α:Type}(f:α→Its)(l:List α):Its:=n1 l.length::l.flatMap f
def xL(p:aQ.Pr):Its:=t1 p.key::Val.items p.val
def yV(r:Rf):Its:=[n1 r.c,n1 r.e,n1 r.r]
def FW(m:kC):Its:=[n1 m.n,n1 (Val.sg m.s),n1 (Val.sg m.l),n1 (Val.sg m.m)]
def mV(o:au.Ob):Its:=[t1 o.name,n1 o.kind,n1 o.cap,n1 o.round]++(many xL o.dV++(many Val.items o.vals++(many yV o.refs++FW o.mt)))
def nD(s:aG.S):Its:=[fl s.live,n1 s.ep,n1 s.rq,fl s.dn,n1 s.p.e]++Val.items s.p.v
def Jy(t:aG.T):Its:=nD t.s0++(nD t.s1++(nD t.s2++(nD t.s3++nD t.s4)))
def mH(s:Ap.St):Its:=n1 s.n::(many mV s.l++Jy s.t)
abbrev P(α:Type):=Its→Option (α×Its)
def bnd{α β:Type}(p:P α)(f:α→P β):P β:=fun l=>match p l with
 | some (a,r)=>f a r
 | none=>none
def ret{α:Type}(a:α):P α:=fun l=>some (a,l)
instance:DecidableEq ny.It:=fun a b=>decidable_of_iff (a.k=b.k∧a.n=b.n∧a.s=b.s) ⟨fun h=>by
 obtain⟨k,n,s⟩:=a;obtain⟨k',n',s'⟩:=b;obtain⟨h1,h2,h3⟩:=h;simp only at h1 h2 h3
 rw[h1,h2,h3],fun h=>by rw[h];exact⟨rfl,rfl,rfl⟩⟩
def num:P Int
 | x::r=>if x.k=0 then some (x.n,r) else none
 | []=>none
def txt:P ByteArray
 | x::r=>if x.k=1 then some (x.s,r) else none
 | []=>none
def bit:P Nat:=bnd num fun n=>ret (Val.us n)
def flag:P Bool:=bnd num fun n=>if n=0∨n=1 then ret (decide (n=1)) else fun _=>none
def val:P Val.V:=fun l=>
 if 0<l.length∧Val.aX (Val.take l)=0∧(Val.items (Val.take l)).length≤l.length∧l.take (Val.items (Val.take l)).length=Val.items (Val.take l)
 then some (Val.take l,l.drop (Val.items (Val.take l)).length) else none
def rep{α:Type}(p:P α):Nat→P (List α)
 | 0=>ret []
 | n+1=>bnd p fun x=>bnd (rep p n) fun l=>ret (x::l)
def uE{α:Type}(c:Bool)(m:Int)(p:P α):P (List α):=bnd num fun n=>if n<0∨(c=true∧m<n) then fun _=>none else rep p n.toNat
def Nw:P aQ.Pr:=bnd txt fun k=>bnd val fun v=>ret ⟨k,v⟩
def Qb:P Rf:=bnd num fun a=>bnd num fun b=>bnd num fun c=>ret ⟨a,b,c⟩
def mtP:P kC:=bnd num fun a=>bnd bit fun b=>bnd bit fun c=>bnd bit fun d=>ret ⟨a,b,c,d⟩
def ND(c:Bool):P au.Ob:=bnd txt fun a=>bnd num fun k=>bnd num fun p=>bnd num fun d=>bnd (uE c 8 Nw) fun ps=>bnd (uE c 8 val) fun vs=>bnd (uE c 5 Qb) fun rs=>bnd mtP fun m=>ret ⟨a,k,p,ps,vs,rs,d,m⟩
def Kt:P aG.S:=bnd flag fun a=>bnd num fun b=>bnd num fun c=>bnd flag fun d=>bnd num fun e=>bnd val fun v=>ret ⟨a,b,c,d,⟨e,v⟩⟩
def tbP:P aG.T:=bnd Kt fun a=>bnd Kt fun b=>bnd Kt fun c=>bnd Kt fun d=>bnd Kt fun e=>ret ⟨a,b,c,d,e⟩
def stP(c:Bool):P Ap.St:=bnd num fun n=>bnd (uE c 8 (ND c)) fun l=>bnd tbP fun t=>ret ⟨n,l,t⟩
def Fi(x:ny.It):Prop:=(x.k=0→x.s=Val.emp)∧(x.k=1→x.n=0)∧-9223372036854775808≤x.n∧x.n≤9223372036854775807
def Fit(l:Its):Prop:=∀x∈l,Fi x
theorem Fit.tail{a b:Its}(h:Fit (a++b)):Fit b:=fun x hx=>h x (List.mem_append_right a hx)
theorem Fit.cons{x:ny.It}{b:Its}(h:Fit (x::b)):Fit b:=fun y hy=>h y (List.mem_cons_of_mem x hy)
def MK{α:Type}(p:P α)(f:α→Its)(G:α→Prop):Prop:=∀l x r,Fit l→p l=some (x,r)→l=f x++r∧G x
def Cpl{α:Type}(p:P α)(f:α→Its)(G:α→Prop):Prop:=∀x r,G x→p (f x++r)=some (x,r)
theorem bC{α β:Type}{p:P α}{f:α→P β}{l:Its}{z:β×Its}(h:bnd p f l=some z):∃a r,p l=some (a,r)∧f a r=some z:=by
 unfold bnd at h
 split at h
 ·next a r e=>exact⟨a,r,e,h⟩
 ·cases h
theorem aV{α β:Type}{p:P α}{f:α→P β}{l r:Its}{a:α}(h:p l=some (a,r)):bnd p f l=f a r:=by
 unfold bnd;rw[h]
theorem iE{α:Type}{a b:α}{l r:Its}(h:ret a l=some (b,r)):b=a∧r=l:=by
 unfold ret at h;cases h;exact uw
theorem iU:MK num (fun n=>[n1 n]) (fun n=>-9223372036854775808≤n∧n≤9223372036854775807):=fun l x r hf h=>by
 match l,hf,h with
 | y::t,hf,h=>
  have h:(if y.k=0 then some (y.n,t) else none)=some (x,r):=h;by_cases hk:y.k=0
  ·rw[if_pos hk] at h
   cases h;have h1:=hf y (List.mem_cons_self ..);obtain⟨k,n,s⟩:=y;simp only at hk;subst hk;have h2:s=Val.emp:=h1.1 rfl;subst h2;exact⟨rfl,h1.2.2⟩
  ·rw[if_neg hk] at h
   cases h
theorem jZ{n:Int}{r:Its}:num (n1 n::r)=some (n,r):=rfl
theorem Nc:MK txt (fun s=>[t1 s]) (fun _=>True):=fun l x r hf h=>by
 match l,hf,h with
 | y::t,hf,h=>
  have h:(if y.k=1 then some (y.s,t) else none)=some (x,r):=h;by_cases hk:y.k=1
  ·rw[if_pos hk] at h
   cases h;have h1:=hf y (List.mem_cons_self ..);obtain⟨k,n,s⟩:=y;simp only at hk;subst hk;have h2:n=0:=h1.2.1 rfl;subst h2;exact⟨rfl,trivial⟩
  ·rw[if_neg hk] at h
   cases h
theorem Nf{s:ByteArray}{r:Its}:txt (t1 s::r)=some (s,r):=rfl
theorem aii{n:Int}(h1 : -9223372036854775808≤n)(h2:n≤9223372036854775807):Val.sg (Val.us n)=n:=by
 unfold Val.sg Val.us;split<;>omega
theorem Fz:MK bit (fun f=>[n1 (Val.sg f)]) (fun f=>f<18446744073709551616):=fun l x r hf h=>by
 obtain⟨n,q,h1,h2⟩:=bC h;obtain⟨rfl,rfl⟩:=iE h2;obtain⟨e,g1,g2⟩:=iU l n _ hf h1;refine⟨?_,by unfold Val.us;omega⟩
 show l=n1 (Val.sg (Val.us n))::_
 rw[aii g1 g2];exact e
theorem FB{f:Nat}(h:f<18446744073709551616){r:Its}:bit (n1 (Val.sg f)::r)=some (f,r):=by
 unfold bit;rw[aV (jZ),Val.acV h]
 rfl
theorem Iw:MK flag (fun b=>[fl b]) (fun _=>True):=fun l x r hf h=>by
 obtain⟨n,q,h1,h2⟩:=bC h;obtain⟨e,_⟩:=iU l n _ hf h1
 split at h2
 ·next hn=>
  obtain⟨rfl,rfl⟩:=iE h2;refine⟨?_,trivial⟩;rw[e];unfold fl
  rcases hn with rfl|rfl<;>rfl
 ·cases h2
theorem Iy{b:Bool}{r:Its}:flag (fl b::r)=some (b,r):=by
 unfold flag fl;rw[aV (jZ)];cases b<;>rfl
def vG(v:Val.V):Prop:=Val.aX v=0∧v.f<18446744073709551616
theorem YV(l:Its):(Val.take l).f<18446744073709551616:=by
 match l with
 | []=>show(0:Nat)<_;decide
 | [x]=>show(0:Nat)<_;decide
 | x::y::_=>
  show(if x.n=2 then Val.us y.n else 0)<_
  split
  ·unfold Val.us;omega
  ·decide
theorem El:MK val Val.items vG:=fun l x r hf h=>by
 unfold val at h
 split at h
 ·next hg=>
  cases h;refine⟨?_,hg.2.1,YV l⟩
  conv=>lhs;rw[← List.take_append_drop (Val.items (Val.take l)).length l]
  rw[hg.2.2.2]
 ·cases h
theorem Em{v:Val.V}(h:vG v)(r:Its):val (Val.items v++r)=some (v,r):=by
 unfold val;rw[Val.Tt h.1 h.2,if_pos ⟨by simp[Val.items],h.1,by simp,by rw[List.take_left]⟩,List.drop_left]
theorem Nq{α:Type}{p:P α}{f:α→Its}{G:α→Prop}(hp:MK p f G):∀n,MK (rep p n) (fun l=>l.flatMap f) (fun l=>l.length=n∧∀x∈l,G x)
 | 0=>fun l x r hf h=>by
  obtain⟨rfl,rfl⟩:=iE h;exact⟨rfl,rfl,fun x hx=>by cases hx⟩
 | n+1=>fun l x r hf h=>by
  obtain⟨a,q,h1,h2⟩:=bC h;obtain⟨b,q2,h3,h4⟩:=bC h2;obtain⟨rfl,rfl⟩:=iE h4;obtain⟨e1,g1⟩:=hp l a q hf h1;rw[e1] at hf;obtain⟨e2,g2,g3⟩:=Nq hp n q b _ hf.tail h3;refine⟨?_,by simp[g2],fun x hx=>?_⟩
  ·rw[e1,e2];simp
  ·rcases List.mem_cons.1 hx with rfl|hx
   ·exact g1
   ·exact g3 x hx
theorem Ns{α:Type}{p:P α}{f:α→Its}{G:α→Prop}(hp:Cpl p f G):∀(l:List α) (r:Its),(∀x∈l,G x)→rep p l.length (l.flatMap f++r)=some (l,r)
 | [],r,_=>rfl
 | x::l,r,h=>by
  show bnd p _ ((x::l).flatMap f++r)=_
  rw[List.flatMap_cons,List.append_assoc,aV (hp x _ (h x (List.mem_cons_self ..))),aV (Ns hp l r fun y hy=>h y (List.mem_cons_of_mem x hy))]
  rfl
def lG{α:Type}(c:Bool)(m:Int)(G:α→Prop)(l:List α):Prop:=(c=true→(l.length:Int)≤m)∧∀x∈l,G x
theorem zB{α:Type}{p:P α}{f:α→Its}{G:α→Prop}(c:Bool)(m:Int)(hp:MK p f G):MK (uE c m p) (many f) (lG c m G):=fun l x r hf h=>by
 obtain⟨n,q,h1,h2⟩:=bC h;obtain⟨e,_⟩:=iU l n _ hf h1
 split at h2
 ·cases h2
 ·next hn=>
  rw[e] at hf;obtain⟨e2,g1,g2⟩:=Nq hp _ q x r hf.tail h2;refine⟨?_,fun hc=>?_,g2⟩
  ·rw[e,e2]
   unfold many;rw[show((x.length:Nat):Int)=n from by omega]
   rfl
  ·rw[g1]
   have:¬m<n:=fun h=>hn (.inr ⟨hc,h⟩)
   have:¬n<0:=fun h=>hn (.inl h)
   omega
theorem zF{α:Type}{p:P α}{f:α→Its}{G:α→Prop}{c:Bool}{m:Int}(hp:Cpl p f G):Cpl (uE c m p) (many f) (lG c m G):=fun l r h=>by
 unfold uE many
 rw[aS,aV (jZ),if_neg (by
  rintro (h1|⟨h1,h2⟩)
  ·omega
  ·have:=h.1 h1;omega)]
 exact Ns hp l r h.2
def prG(p:aQ.Pr):Prop:=vG p.val
theorem ZB:MK Nw xL prG:=fun l x r hf h=>by
 obtain⟨k,q,h1,h2⟩:=bC h;obtain⟨v,q2,h3,h4⟩:=bC h2;obtain⟨rfl,rfl⟩:=iE h4;obtain⟨e1,_⟩:=Nc l k q hf h1;rw[e1] at hf;obtain⟨e2,g2⟩:=El q v _ hf.tail h3;exact⟨by rw[e1,e2];rfl,g2⟩
theorem ZC:Cpl Nw xL prG:=fun x r h=>by
 unfold Nw xL;rw[aS,aV (Nf),aV (Em h _)]
 rfl
theorem Zn:MK Qb yV (fun _=>True):=fun l x r hf h=>by
 obtain⟨a,q,h1,h2⟩:=bC h;obtain⟨b,q2,h3,h4⟩:=bC h2;obtain⟨c,q3,h5,h6⟩:=bC h4;obtain⟨rfl,rfl⟩:=iE h6;obtain⟨e1,_⟩:=iU l a q hf h1;rw[e1] at hf;obtain⟨e2,_⟩:=iU q b q2 hf.tail h3;rw[e2] at hf;obtain⟨e3,_⟩:=iU q2 c _ hf.tail.tail h5;exact⟨by rw[e1,e2,e3];rfl,trivial⟩
theorem Zo:Cpl Qb yV (fun _=>True):=fun x r h=>rfl
def mG(m:kC):Prop:=m.s<18446744073709551616∧m.l<18446744073709551616∧m.m<18446744073709551616
theorem aaf:MK mtP FW (fun m=>mG m∧m.n≤9223372036854775807):=fun l x r hf h=>by
 obtain⟨a,q,h1,h2⟩:=bC h;obtain⟨b,q2,h3,h4⟩:=bC h2;obtain⟨c,q3,h5,h6⟩:=bC h4;obtain⟨d,q4,h7,h8⟩:=bC h6;obtain⟨rfl,rfl⟩:=iE h8;obtain⟨e1,g1⟩:=iU l a q hf h1;rw[e1] at hf;have hf:=hf.tail;obtain⟨e2,g2⟩:=Fz q b q2 hf h3;rw[e2] at hf;have hf:=hf.tail;obtain⟨e3,g3⟩:=Fz q2 c q3 hf h5;rw[e3] at hf;have hf:=hf.tail;obtain⟨e4,g4⟩:=Fz q3 d _ hf h7;exact⟨by rw[e1,e2,e3,e4];rfl,⟨g2,g3,g4⟩,g1.2⟩
theorem aag{x:kC}(h:mG x){r:Its}:mtP (FW x++r)=some (x,r):=by
 unfold mtP FW;rw[aS,aV (jZ),aS,aV (FB h.1),aS,aV (FB h.2.1),aS,aV (FB h.2.2)]
 rfl
structure oG(c:Bool)(o:au.Ob):Prop where
 p:lG c 8 prG o.dV
 v:lG c 8 vG o.vals
 r:c=true→(o.refs.length:Int)≤5
 m:mG o.mt
theorem ZU(c:Bool):MK (ND c) mV (fun o=>oG c o∧o.round≤9223372036854775807∧o.mt.n≤9223372036854775807):=fun l x r hf h=>by
 obtain⟨a,q1,h1,h⟩:=bC h;obtain⟨k,q2,h2,h⟩:=bC h;obtain⟨p,q3,h3,h⟩:=bC h;obtain⟨d,q4,h4,h⟩:=bC h;obtain⟨ps,q5,h5,h⟩:=bC h;obtain⟨vs,q6,h6,h⟩:=bC h;obtain⟨rs,q7,h7,h⟩:=bC h;obtain⟨m,q8,h8,h⟩:=bC h;obtain⟨rfl,rfl⟩:=iE h;obtain⟨e1,_⟩:=Nc _ _ _ hf h1;rw[e1] at hf;have hf:=hf.tail;obtain⟨e2,_⟩:=iU _ _ _ hf h2;rw[e2] at hf;have hf:=hf.tail;obtain⟨e3,_⟩:=iU _ _ _ hf h3;rw[e3] at hf;have hf:=hf.tail;obtain⟨e4,gd⟩:=iU _ _ _ hf h4;rw[e4] at hf;have hf:=hf.tail;obtain⟨e5,g5⟩:=zB c 8 ZB _ _ _ hf h5;rw[e5] at hf;have hf:=hf.tail;obtain⟨e6,g6⟩:=zB c 8 El _ _ _ hf h6;rw[e6] at hf;have hf:=hf.tail;obtain⟨e7,g7⟩:=zB c 5 Zn _ _ _ hf h7;rw[e7] at hf;have hf:=hf.tail;obtain⟨e8,g8⟩:=aaf _ _ _ hf h8;refine⟨?_,⟨g5,g6,g7.1,g8.1⟩,gd.2,g8.2⟩;rw[e1,e2,e3,e4,e5,e6,e7,e8];unfold mV;simp only[List.append_assoc,aS,aK]
theorem ZV(c:Bool):Cpl (ND c) mV (oG c):=fun x r h=>by
 unfold ND mV;simp only[List.append_assoc,aS,aK];rw[aV (Nf),aV (jZ),aV (jZ),aV (jZ),aV (zF ZC _ _ h.p),aV (zF (fun x r g=>Em g r) _ _ h.v),aV (zF Zo _ _ ⟨h.r,fun _ _=>trivial⟩),aV (aag h.m)]
 rfl
def sG(s:aG.S):Prop:=vG s.p.v
theorem vH:MK Kt nD sG:=fun l x r hf h=>by
 obtain⟨a,q1,h1,h⟩:=bC h;obtain⟨b,q2,h2,h⟩:=bC h;obtain⟨c,q3,h3,h⟩:=bC h;obtain⟨d,q4,h4,h⟩:=bC h;obtain⟨e,q5,h5,h⟩:=bC h;obtain⟨v,q6,h6,h⟩:=bC h;obtain⟨rfl,rfl⟩:=iE h;obtain⟨e1,_⟩:=Iw _ _ _ hf h1;rw[e1] at hf;have hf:=hf.tail;obtain⟨e2,_⟩:=iU _ _ _ hf h2;rw[e2] at hf;have hf:=hf.tail;obtain⟨e3,_⟩:=iU _ _ _ hf h3;rw[e3] at hf;have hf:=hf.tail;obtain⟨e4,_⟩:=Iw _ _ _ hf h4;rw[e4] at hf;have hf:=hf.tail;obtain⟨e5,_⟩:=iU _ _ _ hf h5;rw[e5] at hf;have hf:=hf.tail;obtain⟨e6,g6⟩:=El _ _ _ hf h6;refine⟨?_,g6⟩;rw[e1,e2,e3,e4,e5,e6];unfold nD;simp only[List.append_assoc,aS,aK]
theorem vI:Cpl Kt nD sG:=fun x r h=>by
 unfold Kt nD;simp only[List.append_assoc,aS,aK];rw[aV (Iy),aV (jZ),aV (jZ),aV (Iy),aV (jZ),aV (Em h _)]
 rfl
def tG(t:aG.T):Prop:=sG t.s0∧sG t.s1∧sG t.s2∧sG t.s3∧sG t.s4
theorem YS:MK tbP Jy tG:=fun l x r hf h=>by
 obtain⟨a,q1,h1,h⟩:=bC h;obtain⟨b,q2,h2,h⟩:=bC h;obtain⟨c,q3,h3,h⟩:=bC h;obtain⟨d,q4,h4,h⟩:=bC h;obtain⟨e,q5,h5,h⟩:=bC h;obtain⟨rfl,rfl⟩:=iE h;obtain⟨e1,g1⟩:=vH _ _ _ hf h1;rw[e1] at hf;have hf:=hf.tail;obtain⟨e2,g2⟩:=vH _ _ _ hf h2;rw[e2] at hf;have hf:=hf.tail;obtain⟨e3,g3⟩:=vH _ _ _ hf h3;rw[e3] at hf;have hf:=hf.tail;obtain⟨e4,g4⟩:=vH _ _ _ hf h4;rw[e4] at hf;have hf:=hf.tail;obtain⟨e5,g5⟩:=vH _ _ _ hf h5;refine⟨?_,g1,g2,g3,g4,g5⟩;rw[e1,e2,e3,e4,e5];unfold Jy;simp only[List.append_assoc]
theorem YT:Cpl tbP Jy tG:=fun x r h=>by
 unfold tbP Jy;simp only[List.append_assoc];rw[aV (vI _ _ h.1),aV (vI _ _ h.2.1),aV (vI _ _ h.2.2.1),aV (vI _ _ h.2.2.2.1),aV (vI _ _ h.2.2.2.2)]
 rfl
structure Zd(c:Bool)(s:Ap.St):Prop where
 l:lG c 8 (oG c) s.l
 t:tG s.t
theorem Nj{c:Bool}{l:Its}{x:Ap.St}{r:Its}(hf:Fit l)(h:stP c l=some (x,r)):l=mH x++r∧Zd c x:=by
 obtain⟨n,q1,h1,h⟩:=bC h;obtain⟨lo,q2,h2,h⟩:=bC h;obtain⟨t,q3,h3,h⟩:=bC h;obtain⟨rfl,rfl⟩:=iE h;obtain⟨e1,_⟩:=iU _ _ _ hf h1;rw[e1] at hf;have hf:=hf.tail;obtain⟨e2,g2⟩:=zB c 8 (ZU c) _ _ _ hf h2;rw[e2] at hf;have hf:=hf.tail;obtain⟨e3,g3⟩:=YS _ _ _ hf h3;refine⟨?_,⟨g2.1,fun x hx=>(g2.2 x hx).1⟩,g3⟩;rw[e1,e2,e3];unfold mH;simp only[List.append_assoc,aS,aK]
theorem Zb{c:Bool}{x:Ap.St}(h:Zd c x)(r:Its):stP c (mH x++r)=some (x,r):=by
 unfold stP mH;simp only[List.append_assoc,aS];rw[aV (jZ),aV (zF (ZV c) _ _ h.l),aV (YT _ _ h.t)]
 rfl
end aA
end
end Go.Proofs.YtahdlddbbnjloaaGreat
