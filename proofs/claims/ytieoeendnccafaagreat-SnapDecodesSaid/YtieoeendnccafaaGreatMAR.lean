/- A state that may be is read from its items, and has no more than MaxBody bytes; what encoding and decoding answer. No condition but those named. -/
import Derived.Test.YtieoeendnccafaaGreatMTK
import Derived.Test.YtieoeendnccafaaGreatMAE
import Derived.Test.YtieoeendnccafaaGreatMAQ
set_option linter.unusedSimpArgs false
set_option linter.unusedVariables false
set_option maxRecDepth 100000
set_option maxHeartbeats 25600000
namespace Go.Proofs.YtieoeendnccafaaGreat
section
namespace Snp
def toW(x:Itm.It):Wire.It:=⟨x.k,x.n,x.s⟩
def ofW(x:Wire.It):Itm.It:=⟨x.k,x.n,x.s⟩
theorem of_to(l:Its):(l.map toW).map ofW=l:=by
 rw[List.map_map]
 exact List.map_id l
theorem to_of(l:List Wire.It):(l.map ofW).map toW=l:=by
 rw[List.map_map]
 exact List.map_id l
def bl(l:Its):Nat:=(Wire.all (l.map toW)).length
theorem bl_append(a b:Its):bl (a++b)=bl a+bl b:=by
 unfold bl
 rw[List.map_append,Wire.all_append,List.length_append]
theorem bl_cons(x:Itm.It)(b:Its):bl (x::b)=bl [x]+bl b:=bl_append [x] b
theorem bl_n{n:Int}(h1 : -9223372036854775808≤n)(h2:n≤9223372036854775807):bl [n1 n]≤9:=by
 show(Wire.lead 0 (Wire.fold n)++[]).length≤9
 rw[List.append_nil,Wire.lead_length]
 have:=Wire.nb8 (Wire.fold_lt h1 h2)
 omega
theorem bl_n2{n:Int}(h1:0≤n)(h2:n≤100):bl [n1 n]≤2:=by
 show(Wire.lead 0 (Wire.fold n)++[]).length≤2
 rw[List.append_nil,Wire.lead_length]
 have:Wire.nb (Wire.fold n)≤1:=Wire.nb_le (k:=1) (by unfold Wire.fold;split<;>omega)
 omega
theorem bl_t{s:ByteArray}(h:s.size≤64):bl [t1 s]≤66:=by
 show((Wire.lead 16 s.size++s.data.toList)++[]).length≤66
 rw[List.append_nil,List.length_append,Wire.lead_length,Array.length_toList]
 have:Wire.nb s.size≤1:=Wire.nb_le (k:=1) (by omega)
 have e:s.data.size=s.size:=rfl
 omega
theorem Fit.head{a b:Its}(h:Fit (a++b)):Fit a:=fun x hx=>h x (List.mem_append_left b hx)
theorem Fit.rng{n:Int}{b:Its}(h:Fit (n1 n::b)): -9223372036854775808≤n∧n≤9223372036854775807:=(h _ (List.mem_cons_self ..)).2.2
theorem Fit.of{α:Type}{f:α→Its}{l:List α}(h:Fit (l.flatMap f)){x:α}(hx:x∈l):Fit (f x):=fun y hy=>h y (List.mem_flatMap.2 ⟨x,hx,hy⟩)
theorem Fit.app{a b:Its}(h:Fit a)(k:Fit b):Fit (a++b):=fun x hx=>(List.mem_append.1 hx).elim (h x) (k x)
theorem Fit.flat{α:Type}{f:α→Its}{l:List α}(h:∀x∈l,Fit (f x)):Fit (l.flatMap f):=fun y hy=>by
 obtain⟨x,hx,hy⟩:=List.mem_flatMap.1 hy
 exact h x hx y hy
theorem Fit.num{n:Int}{b:Its}(h1 : -9223372036854775808≤n)(h2:n≤9223372036854775807)(h:Fit b):Fit (n1 n::b):=fun x hx=>by
 rcases List.mem_cons.1 hx with rfl|hx
 ·exact⟨fun _=>rfl,(fun h=>by cases h),h1,h2⟩
 ·exact h x hx
theorem Fit.txt{s:ByteArray}{b:Its}(h:Fit b):Fit (t1 s::b):=fun x hx=>by
 rcases List.mem_cons.1 hx with rfl|hx
 ·exact⟨(fun h=>by cases h),fun _=>rfl,by show(-9223372036854775808:Int)≤0;decide,by show(0:Int)≤_;decide⟩
 ·exact h x hx
theorem Fit.flg{c:Bool}{b:Its}(h:Fit b):Fit (fl c::b):=by
 unfold fl
 cases c
 ·exact Fit.num (by decide) (by decide) h
 ·exact Fit.num (by decide) (by decide) h
theorem Fit.nil:Fit []:=fun x hx=>by cases hx
theorem bl_val{v:Val.V}(h:Val.chk v=0)(hf:Fit (Val.items v)):bl (Val.items v)≤68:=by
 rcases Val.chk_ok h with e|e|⟨e,_⟩|⟨e,hs⟩
 ·rw[e]
  have:bl [n1 0]≤2:=bl_n2 (by decide) (by decide)
  show bl [n1 0]≤68
  omega
 ·rw[e] at hf ⊢
  have h1:bl [n1 1]≤2:=bl_n2 (by decide) (by decide)
  have h2:=Fit.rng (n:=v.n) (b:=[]) (Fit.cons (x:=n1 1) hf)
  have h3:=bl_n h2.1 h2.2
  show bl (n1 1::[n1 v.n])≤68
  rw[bl_cons]
  omega
 ·rw[e] at hf ⊢
  have h1:bl [n1 2]≤2:=bl_n2 (by decide) (by decide)
  have h2:=Fit.rng (n:=Val.sg v.f) (b:=[]) (Fit.cons (x:=n1 2) hf)
  have h3:=bl_n h2.1 h2.2
  show bl (n1 2::[n1 (Val.sg v.f)])≤68
  rw[bl_cons]
  omega
 ·rw[e]
  have h1:bl [n1 3]≤2:=bl_n2 (by decide) (by decide)
  have h3:=bl_t hs
  show bl (n1 3::[t1 v.s])≤68
  rw[bl_cons]
  omega
theorem bl_flat{α:Type}(f:α→Its)(m:Nat):∀(l:List α),(∀x∈l,bl (f x)≤m)→bl (l.flatMap f)≤l.length*m
 | [],_=>Nat.zero_le _
 | x::l,h=>by
  have h1:=h x (List.mem_cons_self ..)
  have h2:=bl_flat f m l fun y hy=>h y (List.mem_cons_of_mem x hy)
  rw[List.flatMap_cons,bl_append,List.length_cons,Nat.succ_mul]
  omega
structure Bo(o:Sto.Ob):Prop where
 n:o.name.size≤16
 p:o.prs.length≤8
 k:∀x∈o.prs,x.key.size≤64∧Val.chk x.val=0
 v:o.vals.length≤8
 c:∀x∈o.vals,Val.chk x=0
 r:o.refs.length≤5
theorem pchk_to{k:ByteArray}{v:Val.V}(h:Dct.pchk k v=0):k.size≤64∧Val.chk v=0:=by
 unfold Dct.pchk at h
 split at h
 ·cases h
 ·split at h
  ·cases h
  ·exact⟨by omega,h⟩
theorem vchk_to{v:Val.V}(h:Que.vchk v=0):Val.chk v=0:=by
 unfold Que.vchk at h
 split at h
 ·cases h
 ·exact h
theorem one_bo{o:Sto.Ob}(h:Sto.One o=true):Bo o:=by
 obtain⟨a,b,c⟩:=Sto.one_parts h
 obtain⟨_,_,b1,b2,_⟩:=Sto.clean_to b
 have hr:=Lck.right_len (Ap.refs_right h)
 have h1:o.prs.length≤8∧∀x∈o.prs,x.key.size≤64∧Val.chk x.val=0:=by
  by_cases hk:o.kind=1
  ·rw[Sto.sound_1 hk] at c
   have g:=of_decide_eq_true c
   exact⟨g.len,fun x hx=>pchk_to (g.ok x hx)⟩
  ·rcases b1 with g|g
   ·unfold Sto.f1 at g
    have:=of_decide_eq_false g
    have e:o.prs=[]:=List.length_eq_zero_iff.1 (by omega)
    rw[e]
    exact⟨Nat.zero_le _,fun x hx=>by cases hx⟩
   ·unfold Sto.h1 at g
    exact absurd (of_decide_eq_true g) hk
 have h2:o.vals.length≤8∧∀x∈o.vals,Val.chk x=0:=by
  by_cases hk:o.kind=2
  ·rw[Sto.sound_2 hk] at c
   have g:=of_decide_eq_true c
   have g1:=g.len
   have g2:=g.hi
   exact⟨by omega,fun x hx=>vchk_to (g.ok x hx)⟩
  ·rcases b2 with g|g
   ·unfold Sto.f2 at g
    have:=of_decide_eq_false g
    have e:o.vals=[]:=List.length_eq_zero_iff.1 (by omega)
    rw[e]
    exact⟨Nat.zero_le _,fun x hx=>by cases hx⟩
   ·unfold Sto.h2 at g
    exact absurd (of_decide_eq_true g) hk
 exact⟨(show Sto.named o.name from a).2,h1.1,h1.2,h2.1,h2.2,hr⟩
theorem bl_ob{o:Sto.Ob}(h:Bo o)(hf:Fit (obI o)):bl (obI o)≤1859:=by
 have f1:Fit (n1 o.kind::n1 o.cap::n1 o.round::(many prI o.prs++(many Val.items o.vals++(many rfI o.refs++mtI o.mt)))):=Fit.cons (x:=t1 o.name) hf
 have f2:=f1.cons
 have f3:=f2.cons
 have f4:=f3.cons
 have f5:=f4.tail
 have f6:=f5.tail
 have f7:=f6.tail
 have k1:=f1.rng
 have k2:=f2.rng
 have k3:=f3.rng
 have g1:=(f4.head).cons
 have g2:=(f5.head).cons
 have g3:=(f6.head).cons
 have a1:=bl_t (Nat.le_trans h.n (by decide):o.name.size≤64)
 have a2:bl [t1 o.name]≤18:=by
  show((Wire.lead 16 o.name.size++o.name.data.toList)++[]).length≤18
  rw[List.append_nil,List.length_append,Wire.lead_length,Array.length_toList]
  have hn:=h.n
  have:Wire.nb o.name.size≤1:=Wire.nb_le (k:=1) (by omega)
  have e:o.name.data.size=o.name.size:=rfl
  omega
 have b1:=bl_n k1.1 k1.2
 have b2:=bl_n k2.1 k2.2
 have b3:=bl_n k3.1 k3.2
 have hp:=h.p
 have hv:=h.v
 have hr:=h.r
 have c1:bl (o.prs.flatMap prI)≤o.prs.length*134:=bl_flat prI 134 o.prs fun x hx=>by
  have q1:=bl_t (h.k x hx).1
  have q2:=bl_val (h.k x hx).2 (g1.of hx).cons
  unfold prI
  rw[bl_cons]
  omega
 have c2:bl (o.vals.flatMap Val.items)≤o.vals.length*68:=bl_flat Val.items 68 o.vals fun x hx=>bl_val (h.c x hx) (g2.of hx)
 have c3:bl (o.refs.flatMap rfI)≤o.refs.length*27:=bl_flat rfI 27 o.refs fun x hx=>by
  have q:Fit (n1 x.c::n1 x.e::[n1 x.r]):=g3.of hx
  have q1:=bl_n q.rng.1 q.rng.2
  have q2:=bl_n q.cons.rng.1 q.cons.rng.2
  have q3:=bl_n q.cons.cons.rng.1 q.cons.cons.rng.2
  show bl (n1 x.c::n1 x.e::[n1 x.r])≤27
  rw[bl_cons,bl_cons (n1 x.e)]
  omega
 have d1:bl [n1 o.prs.length]≤2:=bl_n2 (by omega) (by omega)
 have d2:bl [n1 o.vals.length]≤2:=bl_n2 (by omega) (by omega)
 have d3:bl [n1 o.refs.length]≤2:=bl_n2 (by omega) (by omega)
 have e:bl (mtI o.mt)≤36:=by
  have q:Fit (n1 o.mt.n::n1 (Val.sg o.mt.s)::n1 (Val.sg o.mt.l)::[n1 (Val.sg o.mt.m)]):=f7
  have q1:=bl_n q.rng.1 q.rng.2
  have q2:=bl_n q.cons.rng.1 q.cons.rng.2
  have q3:=bl_n q.cons.cons.rng.1 q.cons.cons.rng.2
  have q4:=bl_n q.cons.cons.cons.rng.1 q.cons.cons.cons.rng.2
  show bl (n1 o.mt.n::n1 (Val.sg o.mt.s)::n1 (Val.sg o.mt.l)::[n1 (Val.sg o.mt.m)])≤36
  rw[bl_cons,bl_cons (n1 (Val.sg o.mt.s)),bl_cons (n1 (Val.sg o.mt.l))]
  omega
 have z:bl (obI o)=bl [t1 o.name]+(bl [n1 o.kind]+(bl [n1 o.cap]+(bl [n1 o.round]+(bl [n1 o.prs.length]+bl (o.prs.flatMap prI)+(bl [n1 o.vals.length]+bl (o.vals.flatMap Val.items)+(bl [n1 o.refs.length]+bl (o.refs.flatMap rfI)+bl (mtI o.mt))))))):=by
  show bl (t1 o.name::n1 o.kind::n1 o.cap::n1 o.round::(many prI o.prs++(many Val.items o.vals++(many rfI o.refs++mtI o.mt))))=_
  rw[bl_cons,bl_cons (n1 o.kind),bl_cons (n1 o.cap),bl_cons (n1 o.round),bl_append,bl_append,bl_append]
  unfold many
  rw[bl_cons (n1 o.prs.length),bl_cons (n1 o.vals.length),bl_cons (n1 o.refs.length)]
 rw[z]
 omega
theorem bl_se{s:Ses.S}(h:Val.chk s.p.v=0)(hf:Fit (seI s)):bl (seI s)≤113:=by
 have q0:Fit (fl s.live::n1 s.ep::n1 s.rq::fl s.dn::n1 s.p.e::Val.items s.p.v):=hf
 have q1:=q0.cons
 have q2:=q1.cons
 have q4:=q2.cons.cons
 have a:∀b:Bool,bl [fl b]≤2:=fun b=>by cases b<;>exact bl_n2 (by decide) (by decide)
 have a1:=a s.live
 have a2:=a s.dn
 have b1:=bl_n q1.rng.1 q1.rng.2
 have b2:=bl_n q2.rng.1 q2.rng.2
 have b3:=bl_n q4.rng.1 q4.rng.2
 have c:=bl_val h q4.cons
 show bl (fl s.live::n1 s.ep::n1 s.rq::fl s.dn::n1 s.p.e::Val.items s.p.v)≤113
 rw[bl_cons,bl_cons (n1 s.ep),bl_cons (n1 s.rq),bl_cons (fl s.dn),bl_cons (n1 s.p.e)]
 omega
def Rv(t:Ses.T):Prop:=Val.chk t.s0.p.v=0∧Val.chk t.s1.p.v=0∧Val.chk t.s2.p.v=0∧Val.chk t.s3.p.v=0∧Val.chk t.s4.p.v=0
theorem one_rv{s:Ses.S}(h:Ses.one s=true):Val.chk s.p.v=0:=by
 unfold Ses.one at h
 split at h
 ·have e:=of_decide_eq_true h
  rw[e]
  exact Val.chk_none
 ·simp only[Bool.and_eq_true] at h
  have g:=h.2
  unfold Sto.rep at g
  simp only[Bool.and_eq_true] at g
  exact of_decide_eq_true g.2
theorem right_rv{t:Ses.T}(h:Ses.Right t):Rv t:=⟨one_rv h.1.1,one_rv h.1.2.1,one_rv h.1.2.2.1,one_rv h.1.2.2.2.1,one_rv h.1.2.2.2.2⟩
theorem bl_st{s:Ap.St}(h:Ap.Ok s)(hf:Fit (stI s)):bl (stI s)≤16384:=by
 have q0:Fit (n1 s.n::(many obI s.l++tbI s.t)):=hf
 have q1:=q0.cons.head.cons
 have q2:Fit (seI s.t.s0++(seI s.t.s1++(seI s.t.s2++(seI s.t.s3++seI s.t.s4)))):=q0.cons.tail
 have hl:=h.l.len
 obtain⟨r0,r1,r2,r3,r4⟩:=right_rv h.t
 have a:=bl_n q0.rng.1 q0.rng.2
 have b:bl [n1 s.l.length]≤2:=bl_n2 (by omega) (by omega)
 have c:bl (s.l.flatMap obI)≤s.l.length*1859:=bl_flat obI 1859 s.l fun x hx=>bl_ob (one_bo (h.l.ok x hx)) (q1.of hx)
 have d0:=bl_se r0 q2.head
 have d1:=bl_se r1 q2.tail.head
 have d2:=bl_se r2 q2.tail.tail.head
 have d3:=bl_se r3 q2.tail.tail.tail.head
 have d4:=bl_se r4 q2.tail.tail.tail.tail
 show bl (n1 s.n::(many obI s.l++(seI s.t.s0++(seI s.t.s1++(seI s.t.s2++(seI s.t.s3++seI s.t.s4))))))≤16384
 rw[bl_cons,bl_append]
 unfold many
 rw[bl_cons (n1 s.l.length),bl_append,bl_append,bl_append,bl_append]
 omega
structure Ft(s:Ap.St):Prop where
 p:∀o∈s.l,∀x∈o.prs,x.val.f<18446744073709551616
 v:∀o∈s.l,∀x∈o.vals,x.f<18446744073709551616
 m:∀o∈s.l,mG o.mt
 t:Ses.Fit s.t
theorem ok_G{s:Ap.St}(h:Ap.Ok s)(hf:Ft s)(c:Bool):stG c s:=by
 obtain⟨r0,r1,r2,r3,r4⟩:=right_rv h.t
 have ht:=hf.t
 refine⟨⟨fun _=>by have:=h.l.len;omega,fun o ho=>?_⟩,⟨r0,ht 0 ⟨by decide,by decide⟩⟩,⟨r1,ht 1 ⟨by decide,by decide⟩⟩,⟨r2,ht 2 ⟨by decide,by decide⟩⟩,⟨r3,ht 3 ⟨by decide,by decide⟩⟩,⟨r4,ht 4 ⟨by decide,by decide⟩⟩⟩
 have b:=one_bo (h.l.ok o ho)
 have hp:=b.p
 have hv:=b.v
 have hr:=b.r
 exact⟨⟨fun _=>by omega,fun x hx=>⟨(b.k x hx).2,hf.p o ho x hx⟩⟩,⟨fun _=>by omega,fun x hx=>⟨b.c x hx,hf.v o ho x hx⟩⟩,fun _=>by omega,hf.m o ho⟩
theorem G_ft{c:Bool}{s:Ap.St}(h:stG c s):Ft s:=⟨fun o ho x hx=>(((h.l.2 o ho).p.2 x hx)).2,fun o ho x hx=>((h.l.2 o ho).v.2 x hx).2,fun o ho=>(h.l.2 o ho).m,fun c hc=>by
 rcases Ses.cases5 hc with rfl|rfl|rfl|rfl|rfl
 ·exact h.t.1.2
 ·exact h.t.2.1.2
 ·exact h.t.2.2.1.2
 ·exact h.t.2.2.2.1.2
 ·exact h.t.2.2.2.2.2⟩
def E(s:Ap.St):ByteArray×Int:=if Ap.Ok s then Wire.E ((stI s).map toW) else (⟨#[]⟩,1)
def stz:Ap.St:=⟨0,[],⟨Ses.z,Ses.z,Ses.z,Ses.z,Ses.z⟩⟩
def D1(c:Bool)(l:Its):Ap.St×Int:=match stP c l with
 | some (s,[])=>if Ap.Ok s then (s,0) else (stz,3)
 | _=>(stz,3)
def D(c:Bool)(b:ByteArray):Ap.St×Int:=if (Wire.D b).2=0 then D1 c ((Wire.D b).1.map ofW) else (stz,(Wire.D b).2)
theorem fits_of{l:Its}(h:Fit l)(hk:∀x∈l,x.k=0∨x.k=1):(l.map toW).all Wire.fits=true∧Wire.Wf (l.map toW):=by
 refine⟨List.all_eq_true.2 fun y hy=>?_,fun y hy=>?_⟩
 ·obtain⟨x,hx,rfl⟩:=List.mem_map.1 hy
  obtain⟨h1,h2,_⟩:=h x hx
  unfold Wire.fits toW
  rcases hk x hx with e|e
  ·rw[h1 e,e];rfl
  ·rw[h2 e,e];simp
 ·obtain⟨x,hx,rfl⟩:=List.mem_map.1 hy
  exact(h x hx).2.2
theorem kinds_val(v:Val.V):∀x∈Val.items v,x.k=0∨x.k=1:=fun x hx=>by
 unfold Val.items at hx
 rcases List.mem_cons.1 hx with rfl|hx
 ·exact .inl rfl
 ·split at hx
  ·rw[List.mem_singleton] at hx;subst hx;exact .inl rfl
  ·split at hx
   ·rw[List.mem_singleton] at hx;subst hx;exact .inl rfl
   ·split at hx
    ·rw[List.mem_singleton] at hx;subst hx;exact .inr rfl
    ·cases hx
theorem kinds_flat{α:Type}{f:α→Its}{l:List α}(h:∀y∈l,∀x∈f y,x.k=0∨x.k=1):∀x∈many f l,x.k=0∨x.k=1:=fun x hx=>by
 rcases List.mem_cons.1 hx with rfl|hx
 ·exact .inl rfl
 ·obtain⟨y,hy,hx⟩:=List.mem_flatMap.1 hx
  exact h y hy x hx
theorem kinds_se(s:Ses.S):∀x∈seI s,x.k=0∨x.k=1:=fun x hx=>by
 rcases List.mem_append.1 hx with hx|hx
 ·simp only[List.mem_cons,List.not_mem_nil,or_false] at hx
  rcases hx with rfl|rfl|rfl|rfl|rfl<;>exact .inl rfl
 ·exact kinds_val _ x hx
theorem kinds_ob(o:Sto.Ob):∀x∈obI o,x.k=0∨x.k=1:=fun x hx=>by
 rcases List.mem_append.1 hx with hx|hx
 ·simp only[List.mem_cons,List.not_mem_nil,or_false] at hx
  rcases hx with rfl|rfl|rfl|rfl
  ·exact .inr rfl
  all_goals exact .inl rfl
 ·rcases List.mem_append.1 hx with hx|hx
  ·exact kinds_flat (fun y _ x hx=>by
    rcases List.mem_cons.1 hx with rfl|hx
    ·exact .inr rfl
    ·exact kinds_val _ x hx) x hx
  ·rcases List.mem_append.1 hx with hx|hx
   ·exact kinds_flat (fun y _ x hx=>kinds_val _ x hx) x hx
   ·rcases List.mem_append.1 hx with hx|hx
    ·exact kinds_flat (fun y _ x hx=>by
      simp only[rfI,List.mem_cons,List.not_mem_nil,or_false] at hx
      rcases hx with rfl|rfl|rfl<;>exact .inl rfl) x hx
    ·simp only[mtI,List.mem_cons,List.not_mem_nil,or_false] at hx
     rcases hx with rfl|rfl|rfl|rfl<;>exact .inl rfl
theorem kinds_st(s:Ap.St):∀x∈stI s,x.k=0∨x.k=1:=fun x hx=>by
 rcases List.mem_cons.1 hx with rfl|hx
 ·exact .inl rfl
 ·rcases List.mem_append.1 hx with hx|hx
  ·exact kinds_flat (fun y _ x hx=>kinds_ob y x hx) x hx
  ·unfold tbI at hx
   simp only[List.mem_append] at hx
   rcases hx with hx|hx|hx|hx|hx<;>exact kinds_se _ x hx
theorem E_ok{s:Ap.St}(h:Ap.Ok s)(hf:Fit (stI s)):E s=(⟨(Wire.all ((stI s).map toW)).toArray⟩,0):=by
 unfold E
 rw[if_pos h]
 exact Wire.E_of (fits_of hf (kinds_st s)).1 (bl_st h hf)
theorem E_no{s:Ap.St}(h:¬Ap.Ok s):E s=(⟨#[]⟩,1):=if_neg h
theorem E_le(s:Ap.St)(hf:Fit (stI s)):(E s).1.size≤16384:=by
 by_cases h:Ap.Ok s
 ·rw[E_ok h hf]
  show((Wire.all ((stI s).map toW)).toArray).size≤_
  rw[List.size_toArray]
  exact bl_st h hf
 ·rw[E_no h];exact Nat.zero_le _
theorem good_st{s:Ap.St}(h:Ap.Ok s)(hf:Fit (stI s)):∀x∈(stI s).map toW,Wire.Good x:=
 Wire.good_of (fits_of hf (kinds_st s)).2 (fits_of hf (kinds_st s)).1 (bl_st h hf)
theorem WD_E{s:Ap.St}(h:Ap.Ok s)(hf:Fit (stI s)):Wire.D (E s).1=((stI s).map toW,0):=by
 have e:(E s).1=(Wire.E ((stI s).map toW)).1:=by unfold E;rw[if_pos h]
 rw[e]
 exact Wire.back (fits_of hf (kinds_st s)).2 (by rw[Wire.E_of (fits_of hf (kinds_st s)).1 (bl_st h hf)])
theorem D1_of{c:Bool}{s:Ap.St}(h:Ap.Ok s)(hg:stG c s):D1 c (stI s)=(s,0):=by
 have e:=stP_cpl hg []
 rw[List.append_nil] at e
 unfold D1
 rw[e]
 exact if_pos h
theorem D1_to{c:Bool}{l:Its}(hf:Fit l)(h:(D1 c l).2=0):∃s,D1 c l=(s,0)∧l=stI s∧Ap.Ok s∧stG c s:=by
 unfold D1 at h ⊢
 split at h
 ·next s e=>
  split at h
  ·next hok=>
   obtain⟨g1,g2⟩:=stP_snd hf e
   rw[List.append_nil] at g1
   refine⟨s,?_,g1,hok,g2⟩
   exact if_pos hok
  ·cases h
 ·cases h
theorem D1_bad{c:Bool}{l:Its}(h:¬(D1 c l).2=0):D1 c l=(stz,3):=by
 unfold D1 at h ⊢
 split
 ·next s e=>
  rw[e] at h
  simp only at h
  split
  ·next hok=>rw[if_pos hok] at h;exact absurd rfl h
  ·rfl
 ·rfl
theorem D1_same{l:Its}(hf:Fit l):D1 true l=D1 false l:=by
 by_cases h1:(D1 true l).2=0
 ·obtain⟨s,e,g1,g2,g3⟩:=D1_to hf h1
  rw[e,g1,D1_of g2 (ok_G g2 (G_ft g3) false)]
 ·by_cases h2:(D1 false l).2=0
  ·obtain⟨s,e,g1,g2,g3⟩:=D1_to hf h2
   rw[e,g1,D1_of g2 (ok_G g2 (G_ft g3) true)]
  ·rw[D1_bad h1,D1_bad h2]
theorem fit_D{b:ByteArray}(h:(Wire.D b).2=0):Fit ((Wire.D b).1.map ofW):=fun x hx=>by
 obtain⟨l,e,_,_,g⟩:=Wire.D_ok h
 rw[e] at hx
 obtain⟨y,hy,rfl⟩:=List.mem_map.1 hx
 obtain⟨g1,g2,g3,_⟩:=g y hy
 refine⟨fun e0=>?_,fun e1=>?_,g2,g3⟩
 ·rcases Wire.fits_cases g1 with q|q
  ·exact q.2
  ·have:y.k=0:=e0
   omega
 ·rcases Wire.fits_cases g1 with q|q
  ·have:y.k=1:=e1
   omega
  ·exact q.2
theorem D_same(b:ByteArray):D true b=D false b:=by
 unfold D
 split
 ·next h=>exact D1_same (fit_D h)
 ·rfl
theorem back{s:Ap.St}(h:Ap.Ok s)(hf:Fit (stI s))(ht:Ft s)(c:Bool):D c (E s).1=(s,0):=by
 unfold D
 rw[WD_E h hf,if_pos rfl,of_to]
 exact D1_of h (ok_G h ht c)
theorem once{c:Bool}{b:ByteArray}(h:(D c b).2=0):∃s,D c b=(s,0)∧Ap.Ok s∧Fit (stI s)∧Ft s∧E s=(b,0):=by
 unfold D at h ⊢
 split at h
 ·next hw=>
  rw[if_pos hw]
  obtain⟨s,e,g1,g2,g3⟩:=D1_to (fit_D hw) h
  have hf:Fit (stI s):=by rw[← g1];exact fit_D hw
  refine⟨s,e,g2,hf,G_ft g3,?_⟩
  unfold E
  rw[if_pos g2,← g1,to_of]
  exact Wire.once hw
 ·next hw=>exact absurd h hw
theorem D_bad{c:Bool}{b:ByteArray}(h:¬(D c b).2=0):(D c b).1=stz:=by
 unfold D at h ⊢
 split
 ·next hw=>
  rw[if_pos hw] at h
  rw[D1_bad h]
 ·rfl
end Snp
end
end Go.Proofs.YtieoeendnccafaaGreat
