/- A state that may be is read from its items, and has no more than MaxBody bytes; what encoding and decoding answer. No condition but those named. -/
import Derived.Test.YtahdlddbbnjloaaGreatNAF
import Derived.Test.YtahdlddbbnjloaaGreatNAP
set_option linter.unusedSimpArgs false
set_option linter.unusedVariables false
set_option maxRecDepth 100000
set_option maxHeartbeats 25600000
open Go.RowKit
namespace Go.Proofs.YtahdlddbbnjloaaGreat
section
namespace aA
def toW(x:ny.It):aF.It:=⟨x.k,x.n,x.s⟩
def Vf(x:aF.It):ny.It:=⟨x.k,x.n,x.s⟩
theorem aiM(l:Its):(l.map toW).map Vf=l:=by
 rw[List.map_map];exact List.map_id l
theorem ahX(l:List aF.It):(l.map Vf).map toW=l:=by
 rw[List.map_map];exact List.map_id l
def bl(l:Its):Nat:=(aF.all (l.map toW)).length
theorem iP(a b:Its):bl (a++b)=bl a+bl b:=by
 unfold bl;rw[List.map_append,aF.all_append,List.length_append]
theorem dP(x:ny.It)(b:Its):bl (x::b)=bl [x]+bl b:=iP [x] b
theorem um{n:Int}(h1 : -9223372036854775808≤n)(h2:n≤9223372036854775807):bl [n1 n]≤9:=by
 show(aF.lead 0 (aF.fold n)++[]).length≤9
 rw[List.append_nil,aF.gZ];have:=aF.nb8 (aF.Fp h1 h2);omega
theorem wV{n:Int}(h1:0≤n:=by decide)(h2:n≤100:=by decide):bl [n1 n]≤2:=by
 show(aF.lead 0 (aF.fold n)++[]).length≤2
 rw[List.append_nil,aF.gZ];have:aF.nb (aF.fold n)≤1:=aF.AZ (k:=1) (by unfold aF.fold;split<;>omega);omega
theorem agi{s:ByteArray}(h:s.size≤64):bl [t1 s]≤66:=by
 show((aF.lead 16 s.size++s.data.toList)++[]).length≤66
 rw[List.append_nil,List.length_append,aF.gZ,Array.length_toList];have:aF.nb s.size≤1:=aF.AZ (k:=1) (by omega);have e:s.data.size=s.size:=rfl;omega
theorem Fit.head{a b:Its}(h:Fit (a++b)):Fit a:=fun x hx=>h x (List.mem_append_left b hx)
theorem Fit.rng{n:Int}{b:Its}(h:Fit (n1 n::b)): -9223372036854775808≤n∧n≤9223372036854775807:=(h _ (List.mem_cons_self ..)).2.2
theorem Fit.of{α:Type}{f:α→Its}{l:List α}(h:Fit (l.flatMap f)){x:α}(hx:x∈l):Fit (f x):=fun y hy=>h y (List.mem_flatMap.2 ⟨x,hx,hy⟩)
theorem Fit.app{a b:Its}(h:Fit a)(k:Fit b):Fit (a++b):=fun x hx=>(List.mem_append.1 hx).elim (h x) (k x)
theorem Fit.flat{α:Type}{f:α→Its}{l:List α}(h:∀x∈l,Fit (f x)):Fit (l.flatMap f):=fun y hy=>by
 obtain⟨x,hx,hy⟩:=List.mem_flatMap.1 hy;exact h x hx y hy
theorem Fit.num{n:Int}{b:Its}(h1 : -9223372036854775808≤n)(h2:n≤9223372036854775807)(h:Fit b):Fit (n1 n::b):=fun x hx=>by
 rcases List.mem_cons.1 hx with rfl|hx
 ·exact⟨fun _=>rfl,(fun h=>by cases h),h1,h2⟩
 ·exact h x hx
theorem Fit.txt{s:ByteArray}{b:Its}(h:Fit b):Fit (t1 s::b):=fun x hx=>by
 rcases List.mem_cons.1 hx with rfl|hx
 ·exact⟨(fun h=>by cases h),fun _=>rfl,by show(-9223372036854775808:Int)≤0;decide,by show(0:Int)≤_;decide⟩
 ·exact h x hx
theorem Fit.flg{c:Bool}{b:Its}(h:Fit b):Fit (fl c::b):=by
 unfold fl;cases c
 ·exact Fit.num (by decide) (by decide) h
 ·exact Fit.num (by decide) (by decide) h
theorem Fit.nil:Fit []:=fun x hx=>by cases hx
theorem MG{v:Val.V}(h:Val.aX v=0)(hf:Fit (Val.items v)):bl (Val.items v)≤68:=by
 rcases Val.sU h with e|e|⟨e,_⟩|⟨e,hs⟩
 ·rw[e]
  have:bl [n1 0]≤2:=wV
  show bl [n1 0]≤68
  omega
 ·rw[e] at hf ⊢
  have h1:bl [n1 1]≤2:=wV;have h2:=Fit.rng (n:=v.n) (b:=[]) (Fit.cons (x:=n1 1) hf);have h3:=um h2.1 h2.2
  show bl (n1 1::[n1 v.n])≤68
  rw[dP];omega
 ·rw[e] at hf ⊢
  have h1:bl [n1 2]≤2:=wV;have h2:=Fit.rng (n:=Val.sg v.f) (b:=[]) (Fit.cons (x:=n1 2) hf);have h3:=um h2.1 h2.2
  show bl (n1 2::[n1 (Val.sg v.f)])≤68
  rw[dP];omega
 ·rw[e]
  have h1:bl [n1 3]≤2:=wV;have h3:=agi hs
  show bl (n1 3::[t1 v.s])≤68
  rw[dP];omega
theorem wW{α:Type}(f:α→Its)(m:Nat):∀(l:List α),(∀x∈l,bl (f x)≤m)→bl (l.flatMap f)≤l.length*m
 | [],_=>Nat.zero_le _
 | x::l,h=>by
  have h1:=h x (List.mem_cons_self ..);have h2:=wW f m l fun y hy=>h y (List.mem_cons_of_mem x hy)
  rw[List.flatMap_cons,iP,List.length_cons,Nat.succ_mul];omega
structure Bo(o:au.Ob):Prop where
 n:o.name.size≤16
 p:o.dV.length≤8
 k:∀x∈o.dV,x.key.size≤64∧Val.aX x.val=0
 v:o.vals.length≤8
 c:∀x∈o.vals,Val.aX x=0
 r:o.refs.length≤5
theorem ZG{k:ByteArray}{v:Val.V}(h:aQ.jG k v=0):k.size≤64∧Val.aX v=0:=by
 unfold aQ.jG at h
 split at h
 ·cases h
 ·split at h
  ·cases h
  ·exact⟨by omega,h⟩
theorem YO{v:Val.V}(h:fG.jT v=0):Val.aX v=0:=by
 unfold fG.jT at h
 split at h
 ·cases h
 ·exact h
theorem AX{o:au.Ob}(h:au.One o=true):Bo o:=by
 obtain⟨a,b,c⟩:=au.fD h;obtain⟨_,_,b1,b2,_⟩:=au.jl b;have hr:=aY.fV (Ap.gB h)
 have h1:o.dV.length≤8∧∀x∈o.dV,x.key.size≤64∧Val.aX x.val=0:=by
  by_cases hk:o.kind=1
  ·rw[au.zu hk] at c
   have g:=of_decide_eq_true c;exact⟨g.len,fun x hx=>ZG (g.ok x hx)⟩
  ·rcases b1 with g|g
   ·unfold au.f1 at g
    have:=of_decide_eq_false g;have e:o.dV=[]:=List.length_eq_zero_iff.1 (by omega);rw[e];exact⟨Nat.zero_le _,fun x hx=>by cases hx⟩
   ·unfold au.h1 at g
    exact absurd (of_decide_eq_true g) hk
 have h2:o.vals.length≤8∧∀x∈o.vals,Val.aX x=0:=by
  by_cases hk:o.kind=2
  ·rw[au.zq hk] at c
   have g:=of_decide_eq_true c;have g1:=g.len;have g2:=g.hi;exact⟨by omega,fun x hx=>YO (g.ok x hx)⟩
  ·rcases b2 with g|g
   ·unfold au.f2 at g
    have:=of_decide_eq_false g;have e:o.vals=[]:=List.length_eq_zero_iff.1 (by omega);rw[e];exact⟨Nat.zero_le _,fun x hx=>by cases hx⟩
   ·unfold au.h2 at g
    exact absurd (of_decide_eq_true g) hk
 exact⟨(show au.named o.name from a).2,h1.1,h1.2,h2.1,h2.2,hr⟩
theorem ajw{o:au.Ob}(h:Bo o)(hf:Fit (mV o)):bl (mV o)≤1859:=by
 have f1:Fit (n1 o.kind::n1 o.cap::n1 o.round::(many xL o.dV++(many Val.items o.vals++(many yV o.refs++FW o.mt)))):=Fit.cons (x:=t1 o.name) hf;have f2:=f1.cons;have f3:=f2.cons;have f4:=f3.cons;have f5:=f4.tail;have f6:=f5.tail;have f7:=f6.tail;have k1:=f1.rng;have k2:=f2.rng;have k3:=f3.rng;have g1:=(f4.head).cons;have g2:=(f5.head).cons;have g3:=(f6.head).cons;have a1:=agi (Nat.le_trans h.n (by decide):o.name.size≤64)
 have a2:bl [t1 o.name]≤18:=by
  show((aF.lead 16 o.name.size++o.name.data.toList)++[]).length≤18
  rw[List.append_nil,List.length_append,aF.gZ,Array.length_toList];have hn:=h.n;have:aF.nb o.name.size≤1:=aF.AZ (k:=1) (by omega);have e:o.name.data.size=o.name.size:=rfl;omega
 have b1:=um k1.1 k1.2;have b2:=um k2.1 k2.2;have b3:=um k3.1 k3.2;have hp:=h.p;have hv:=h.v;have hr:=h.r
 have c1:bl (o.dV.flatMap xL)≤o.dV.length*134:=wW xL 134 o.dV fun x hx=>by
  have q1:=agi (h.k x hx).1;have q2:=MG (h.k x hx).2 (g1.of hx).cons;unfold xL;rw[dP];omega
 have c2:bl (o.vals.flatMap Val.items)≤o.vals.length*68:=wW Val.items 68 o.vals fun x hx=>MG (h.c x hx) (g2.of hx)
 have c3:bl (o.refs.flatMap yV)≤o.refs.length*27:=wW yV 27 o.refs fun x hx=>by
  have q:Fit (n1 x.c::n1 x.e::[n1 x.r]):=g3.of hx;have q1:=um q.rng.1 q.rng.2;have q2:=um q.cons.rng.1 q.cons.rng.2;have q3:=um q.cons.cons.rng.1 q.cons.cons.rng.2
  show bl (n1 x.c::n1 x.e::[n1 x.r])≤27
  rw[dP,dP (n1 x.e)];omega
 have d1:bl [n1 o.dV.length]≤2:=wV (h1:=(by omega)) (h2:=(by omega));have d2:bl [n1 o.vals.length]≤2:=wV (h1:=(by omega)) (h2:=(by omega));have d3:bl [n1 o.refs.length]≤2:=wV (h1:=(by omega)) (h2:=(by omega))
 have e:bl (FW o.mt)≤36:=by
  have q:Fit (n1 o.mt.n::n1 (Val.sg o.mt.s)::n1 (Val.sg o.mt.l)::[n1 (Val.sg o.mt.m)]):=f7;have q1:=um q.rng.1 q.rng.2;have q2:=um q.cons.rng.1 q.cons.rng.2;have q3:=um q.cons.cons.rng.1 q.cons.cons.rng.2;have q4:=um q.cons.cons.cons.rng.1 q.cons.cons.cons.rng.2
  show bl (n1 o.mt.n::n1 (Val.sg o.mt.s)::n1 (Val.sg o.mt.l)::[n1 (Val.sg o.mt.m)])≤36
  rw[dP,dP (n1 (Val.sg o.mt.s)),dP (n1 (Val.sg o.mt.l))];omega
 have z:bl (mV o)=bl [t1 o.name]+(bl [n1 o.kind]+(bl [n1 o.cap]+(bl [n1 o.round]+(bl [n1 o.dV.length]+bl (o.dV.flatMap xL)+(bl [n1 o.vals.length]+bl (o.vals.flatMap Val.items)+(bl [n1 o.refs.length]+bl (o.refs.flatMap yV)+bl (FW o.mt))))))):=by
  show bl (t1 o.name::n1 o.kind::n1 o.cap::n1 o.round::(many xL o.dV++(many Val.items o.vals++(many yV o.refs++FW o.mt))))=_
  rw[dP,dP (n1 o.kind),dP (n1 o.cap),dP (n1 o.round),iP,iP,iP];unfold many;rw[dP (n1 o.dV.length),dP (n1 o.vals.length),dP (n1 o.refs.length)]
 rw[z];omega
theorem Jo{s:aG.S}(h:Val.aX s.p.v=0)(hf:Fit (nD s)):bl (nD s)≤113:=by
 have q0:Fit (fl s.live::n1 s.ep::n1 s.rq::fl s.dn::n1 s.p.e::Val.items s.p.v):=hf;have q1:=q0.cons;have q2:=q1.cons;have q4:=q2.cons.cons;have a:∀b:Bool,bl [fl b]≤2:=fun b=>by cases b<;>exact wV
 have a1:=a s.live;have a2:=a s.dn;have b1:=um q1.rng.1 q1.rng.2;have b2:=um q2.rng.1 q2.rng.2;have b3:=um q4.rng.1 q4.rng.2;have c:=MG h q4.cons
 show bl (fl s.live::n1 s.ep::n1 s.rq::fl s.dn::n1 s.p.e::Val.items s.p.v)≤113
 rw[dP,dP (n1 s.ep),dP (n1 s.rq),dP (fl s.dn),dP (n1 s.p.e)];omega
def Rv(t:aG.T):Prop:=Val.aX t.s0.p.v=0∧Val.aX t.s1.p.v=0∧Val.aX t.s2.p.v=0∧Val.aX t.s3.p.v=0∧Val.aX t.s4.p.v=0
theorem AQ{s:aG.S}(h:aG.one s=true):Val.aX s.p.v=0:=by
 unfold aG.one at h
 split at h
 ·have e:=of_decide_eq_true h
  rw[e];exact Val.Jg
 ·simp only[Bool.and_eq_true] at h
  have g:=h.2;unfold au.rep at g;simp only[Bool.and_eq_true] at g;exact of_decide_eq_true g.2
theorem Gs{t:aG.T}(h:aG.Right t):Rv t:=⟨AQ h.1.1,AQ h.1.2.1,AQ h.1.2.2.1,AQ h.1.2.2.2.1,AQ h.1.2.2.2.2⟩
theorem OM{s:Ap.St}(h:Ap.Ok s)(hf:Fit (mH s)):bl (mH s)≤16384:=by
 have q0:Fit (n1 s.n::(many mV s.l++Jy s.t)):=hf;have q1:=q0.cons.head.cons;have q2:Fit (nD s.t.s0++(nD s.t.s1++(nD s.t.s2++(nD s.t.s3++nD s.t.s4)))):=q0.cons.tail;have hl:=h.l.len;obtain⟨r0,r1,r2,r3,r4⟩:=Gs h.t;have a:=um q0.rng.1 q0.rng.2;have b:bl [n1 s.l.length]≤2:=wV (h1:=(by omega)) (h2:=(by omega));have c:bl (s.l.flatMap mV)≤s.l.length*1859:=wW mV 1859 s.l fun x hx=>ajw (AX (h.l.ok x hx)) (q1.of hx)
 have d0:=Jo r0 q2.head;have d1:=Jo r1 q2.tail.head;have d2:=Jo r2 q2.tail.tail.head;have d3:=Jo r3 q2.tail.tail.tail.head;have d4:=Jo r4 q2.tail.tail.tail.tail
 show bl (n1 s.n::(many mV s.l++(nD s.t.s0++(nD s.t.s1++(nD s.t.s2++(nD s.t.s3++nD s.t.s4))))))≤16384
 rw[dP,iP];unfold many;rw[dP (n1 s.l.length),iP,iP,iP,iP];omega
structure Ft(s:Ap.St):Prop where
 p:∀o∈s.l,∀x∈o.dV,x.val.f<18446744073709551616
 v:∀o∈s.l,∀x∈o.vals,x.f<18446744073709551616
 m:∀o∈s.l,mG o.mt
 t:aG.Fit s.t
theorem afr{s:Ap.St}(h:Ap.Ok s)(hf:Ft s)(c:Bool):Zd c s:=by
 obtain⟨r0,r1,r2,r3,r4⟩:=Gs h.t;have ht:=hf.t;refine⟨⟨fun _=>by have:=h.l.len;omega,fun o ho=>?_⟩,⟨r0,ht 0 ⟨by decide,by decide⟩⟩,⟨r1,ht 1 ⟨by decide,by decide⟩⟩,⟨r2,ht 2 ⟨by decide,by decide⟩⟩,⟨r3,ht 3 ⟨by decide,by decide⟩⟩,⟨r4,ht 4 ⟨by decide,by decide⟩⟩⟩;have b:=AX (h.l.ok o ho);have hp:=b.p;have hv:=b.v;have hr:=b.r;exact⟨⟨fun _=>by omega,fun x hx=>⟨(b.k x hx).2,hf.p o ho x hx⟩⟩,⟨fun _=>by omega,fun x hx=>⟨b.c x hx,hf.v o ho x hx⟩⟩,fun _=>by omega,hf.m o ho⟩
theorem akg{c:Bool}{s:Ap.St}(h:Zd c s):Ft s:=⟨fun o ho x hx=>(((h.l.2 o ho).p.2 x hx)).2,fun o ho x hx=>((h.l.2 o ho).v.2 x hx).2,fun o ho=>(h.l.2 o ho).m,fun c hc=>by
 rcases aG.fO hc with rfl|rfl|rfl|rfl|rfl
 ·exact h.t.1.2
 ·exact h.t.2.1.2
 ·exact h.t.2.2.1.2
 ·exact h.t.2.2.2.1.2
 ·exact h.t.2.2.2.2.2⟩
def E(s:Ap.St):ByteArray×Int:=if Ap.Ok s then aF.E ((mH s).map toW) else (⟨#[]⟩,1)
def zm:Ap.St:=⟨0,[],⟨aG.z,aG.z,aG.z,aG.z,aG.z⟩⟩
def D1(c:Bool)(l:Its):Ap.St×Int:=match stP c l with
 | some (s,[])=>if Ap.Ok s then (s,0) else (zm,3)
 | _=>(zm,3)
def D(c:Bool)(b:ByteArray):Ap.St×Int:=if (aF.D b).2=0 then D1 c ((aF.D b).1.map Vf) else (zm,(aF.D b).2)
theorem wG{l:Its}(h:Fit l)(hk:∀x∈l,x.k=0∨x.k=1):(l.map toW).all aF.fits=true∧aF.Wf (l.map toW):=by
 refine⟨List.all_eq_true.2 fun y hy=>?_,fun y hy=>?_⟩
 ·obtain⟨x,hx,rfl⟩:=List.mem_map.1 hy
  obtain⟨h1,h2,_⟩:=h x hx;unfold aF.fits toW
  rcases hk x hx with e|e
  ·rw[h1 e,e];rfl
  ·rw[h2 e,e];simp
 ·obtain⟨x,hx,rfl⟩:=List.mem_map.1 hy
  exact(h x hx).2.2
theorem xR{v:Val.V}:∀x∈Val.items v,x.k=0∨x.k=1:=fun x hx=>by
 unfold Val.items at hx
 rcases List.mem_cons.1 hx with rfl|hx
 ·exact .inl rfl
 ·split at hx
  ·rw[List.mem_singleton] at hx;subst hx;exact .inl rfl
  ·split at hx
   ·rw[List.mem_singleton] at hx;subst hx;exact .inl rfl
   ·split at hx
    ·rw[List.mem_singleton] at hx;subst hx;exact .inr rfl
    ·cases hx
theorem qg{α:Type}{f:α→Its}{l:List α}(h:∀y∈l,∀x∈f y,x.k=0∨x.k=1):∀x∈many f l,x.k=0∨x.k=1:=fun x hx=>by
 rcases List.mem_cons.1 hx with rfl|hx
 ·exact .inl rfl
 ·obtain⟨y,hy,hx⟩:=List.mem_flatMap.1 hx
  exact h y hy x hx
theorem VA{s:aG.S}:∀x∈nD s,x.k=0∨x.k=1:=fun x hx=>by
 rcases List.mem_append.1 hx with hx|hx
 ·simp only[List.mem_cons,List.not_mem_nil,or_false] at hx
  rcases hx with rfl|rfl|rfl|rfl|rfl<;>exact .inl rfl
 ·exact xR x hx
theorem VD(o:au.Ob):∀x∈mV o,x.k=0∨x.k=1:=fun x hx=>by
 rcases List.mem_append.1 hx with hx|hx
 ·simp only[List.mem_cons,List.not_mem_nil,or_false] at hx
  rcases hx with rfl|rfl|rfl|rfl
  ·exact .inr rfl
  all_goals exact .inl rfl
 ·rcases List.mem_append.1 hx with hx|hx
  ·exact qg (fun y _ x hx=>by
    rcases List.mem_cons.1 hx with rfl|hx
    ·exact .inr rfl
    ·exact xR x hx) x hx
  ·rcases List.mem_append.1 hx with hx|hx
   ·exact qg (fun y _ x hx=>xR x hx) x hx
   ·rcases List.mem_append.1 hx with hx|hx
    ·exact qg (fun y _ x hx=>by
      simp only[yV,List.mem_cons,List.not_mem_nil,or_false] at hx
      rcases hx with rfl|rfl|rfl<;>exact .inl rfl) x hx
    ·simp only[FW,List.mem_cons,List.not_mem_nil,or_false] at hx
     rcases hx with rfl|rfl|rfl|rfl<;>exact .inl rfl
theorem sH(s:Ap.St):∀x∈mH s,x.k=0∨x.k=1:=fun x hx=>by
 rcases List.mem_cons.1 hx with rfl|hx
 ·exact .inl rfl
 ·rcases List.mem_append.1 hx with hx|hx
  ·exact qg (fun y _ x hx=>VD y x hx) x hx
  ·unfold Jy at hx
   simp only[List.mem_append] at hx
   rcases hx with hx|hx|hx|hx|hx<;>exact VA x hx
theorem RZ{s:Ap.St}(h:Ap.Ok s)(hf:Fit (mH s)):E s=(⟨(aF.all ((mH s).map toW)).toArray⟩,0):=by
 unfold E;rw[if_pos h];exact aF.Yd (wG hf (sH s)).1 (OM h hf)
theorem agG{s:Ap.St}(h:¬Ap.Ok s):E s=(⟨#[]⟩,1):=if_neg h
theorem aki(s:Ap.St)(hf:Fit (mH s)):(E s).1.size≤16384:=by
 by_cases h:Ap.Ok s
 ·rw[RZ h hf]
  show((aF.all ((mH s).map toW)).toArray).size≤_
  rw[List.size_toArray];exact OM h hf
 ·rw[agG h];exact Nat.zero_le _
theorem aaL{s:Ap.St}(h:Ap.Ok s)(hf:Fit (mH s)):∀x∈(mH s).map toW,aF.Good x:=
 aF.Oi (wG hf (sH s)).2 (wG hf (sH s)).1 (OM h hf)
theorem alH{s:Ap.St}(h:Ap.Ok s)(hf:Fit (mH s)):aF.D (E s).1=((mH s).map toW,0):=by
 have e:(E s).1=(aF.E ((mH s).map toW)).1:=by unfold E;rw[if_pos h]
 rw[e];exact aF.back (wG hf (sH s)).2 (by rw[aF.Yd (wG hf (sH s)).1 (OM h hf)])
theorem akk{c:Bool}{s:Ap.St}(h:Ap.Ok s)(hg:Zd c s):D1 c (mH s)=(s,0):=by
 have e:=Zb hg [];rw[List.append_nil] at e;unfold D1;rw[e];exact if_pos h
theorem akj{c:Bool}{l:Its}(hf:Fit l)(h:(D1 c l).2=0):∃s,D1 c l=(s,0)∧l=mH s∧Ap.Ok s∧Zd c s:=by
 unfold D1 at h ⊢
 split at h
 ·next s e=>
  split at h
  ·next hok=>
   obtain⟨g1,g2⟩:=Nj hf e;rw[List.append_nil] at g1;refine⟨s,?_,g1,hok,g2⟩;exact if_pos hok
  ·cases h
 ·cases h
theorem agJ{c:Bool}{l:Its}(h:¬(D1 c l).2=0):D1 c l=(zm,3):=by
 unfold D1 at h ⊢
 split
 ·next s e=>
  rw[e] at h;simp only at h
  split
  ·next hok=>rw[if_pos hok] at h;exact absurd rfl h
  ·rfl
 ·rfl
theorem WE{b:ByteArray}(h:(aF.D b).2=0):Fit ((aF.D b).1.map Vf):=fun x hx=>by
 obtain⟨l,e,_,_,g⟩:=aF.agH h;rw[e] at hx;obtain⟨y,hy,rfl⟩:=List.mem_map.1 hx;obtain⟨g1,g2,g3,_⟩:=g y hy;refine⟨fun e0=>?_,fun e1=>?_,g2,g3⟩
 ·rcases aF.qm g1 with q|q
  ·exact q.2
  ·have:y.k=0:=e0
   omega
 ·rcases aF.qm g1 with q|q
  ·have:y.k=1:=e1
   omega
  ·exact q.2
theorem back{s:Ap.St}(h:Ap.Ok s)(hf:Fit (mH s))(ht:Ft s)(c:Bool):D c (E s).1=(s,0):=by
 unfold D;rw[alH h hf,if_pos rfl,aiM];exact akk h (afr h ht c)
theorem once{c:Bool}{b:ByteArray}(h:(D c b).2=0):∃s,D c b=(s,0)∧Ap.Ok s∧Fit (mH s)∧Ft s∧E s=(b,0):=by
 unfold D at h ⊢
 split at h
 ·next hw=>
  rw[if_pos hw];obtain⟨s,e,g1,g2,g3⟩:=akj (WE hw) h;have hf:Fit (mH s):=by rw[← g1];exact WE hw
  refine⟨s,e,g2,hf,akg g3,?_⟩;unfold E;rw[if_pos g2,← g1,ahX];exact aF.once hw
 ·next hw=>exact absurd h hw
theorem adP{c:Bool}{b:ByteArray}(h:¬(D c b).2=0):(D c b).1=zm:=by
 unfold D at h ⊢
 split
 ·next hw=>
  rw[if_pos hw] at h;rw[agJ h]
 ·rfl
end aA
end
end Go.Proofs.YtahdlddbbnjloaaGreat
