/- What the document's Decode returns. No condition but those named. -/
import Derived.Test.YtahdlddbbnjloaaGreatNBA
import Derived.Test.YtahdlddbbnjloaaGreatWireDecode
set_option linter.unusedSimpArgs false
set_option linter.unusedVariables false
set_option maxRecDepth 100000
set_option maxHeartbeats 25600000
open Go.RowKit
namespace Go.Proofs.YtahdlddbbnjloaaGreat
open _root_.Go.Proofs.Tryz
section
theorem Af:∀l:List aF.It,l.length≤(aF.all l).length
 | []=>Nat.zero_le _
 | x::t=>by
  have h1:=aF.one_pos x;have h2:=Af t;rw[aF.all_cons,List.length_append,List.length_cons];omega
theorem aav{base:Nat}{w:World}{v:Value}{l:List aF.It}(h:Its base w v l):aD.Own base w v (l.map aA.Vf):=by
 have e1:(l.map aA.Vf).length=l.length:=List.length_map ..
 have e2:aD.flat (l.map aA.Vf)=flat l:=by
  unfold Lay.flat flat;rw[List.flatMap_map]
  rfl
 unfold Lay.Own;rw[e1,e2];exact h
theorem aA.Ow{α:Type}{f:α→aA.Its}(h:∀x,1≤(f x).length):∀l:List α,l.length≤(l.flatMap f).length
 | []=>Nat.le_refl _
 | x::l=>by
  have:=Ow h l;have:=h x;rw[List.flatMap_cons,List.length_append,List.length_cons];omega
theorem aA.aaQ{α:Type}{f:α→aA.Its}{l:List α}{x:α}(h:x∈l):(f x).length≤(l.flatMap f).length:=by
 induction l with
 | nil=>cases h
 | cons y t ih=>
  rw[List.flatMap_cons,List.length_append]
  rcases List.mem_cons.1 h with rfl|h
  ·omega
  ·have:=ih h;omega
theorem aA.zA{α:Type}{f:α→aA.Its}(h:∀x,1≤(f x).length)(l:List α):l.length≤(aA.many f l).length:=by
 have:=Ow h l;unfold aA.many;rw[List.length_cons];omega
theorem aA.aie{s:Ap.St}{c:Bool}(hf:aA.Fit (aA.mH s))(hg:aA.Zd c s)(hl:(aA.mH s).length≤16384):s.l.length≤16384∧∀o∈s.l,Fo o:=by
 have hm:(aA.many aA.mV s.l).length≤16384:=by
  unfold aA.mH at hl;rw[List.length_cons,List.length_append] at hl;omega
 have h1:∀o:au.Ob,1≤(aA.mV o).length:=fun o=>by
  unfold aA.mV;rw[List.length_append]
  show 1≤4+_
  omega
 refine⟨Nat.le_trans (aA.zA h1 s.l) hm,fun o ho=>?_⟩
 have hfl:(s.l.flatMap aA.mV).length≤16384:=by
  unfold aA.many at hm;rw[List.length_cons] at hm;omega
 have hol:(aA.mV o).length≤16384:=Nat.le_trans (aA.aaQ ho) hfl;have q0:aA.Fit (aA.n1 s.n::(aA.many aA.mV s.l++aA.Jy s.t)):=hf;have q1:aA.Fit (aA.mV o):=(q0.cons.head.cons).of ho;have q2:aA.Fit (aA.n1 o.kind::aA.n1 o.cap::aA.n1 o.round::(aA.many aA.xL o.dV++(aA.many Val.items o.vals++(aA.many aA.yV o.refs++aA.FW o.mt)))):=aA.Fit.cons (x:=aA.t1 o.name) q1;have hd:=q2.cons.cons.rng;have q3:=q2.cons.cons.cons.tail.tail.tail;have hn : -9223372036854775808≤o.mt.n∧o.mt.n≤9223372036854775807:=aA.Fit.rng (b:=[aA.n1 (Val.sg o.mt.s),aA.n1 (Val.sg o.mt.l),aA.n1 (Val.sg o.mt.m)]) q3;have g:=hg.l.2 o ho;have k1:=aA.zA (f:=aA.xL) (fun p=>by unfold aA.xL;rw[List.length_cons];omega) o.dV;have k2:=aA.zA (f:=Val.items) (fun v=>(nG v).1) o.vals;have k3:=aA.zA (f:=aA.yV) (fun v=>by show 1≤3;decide) o.refs;unfold aA.mV at hol;simp only[List.length_append] at hol;refine⟨⟨fun p hp=>(g.p.2 p hp).2,?_⟩,⟨fun v hv=>(g.v.2 v hv).2,?_⟩,⟨fun _ _=>trivial,?_⟩,⟨hn.2,g.m.1,g.m.2.1,g.m.2.2⟩,hd.2⟩
 ·show o.dV.length≤2513169434916
  omega
 ·show o.vals.length*40≤_
  omega
 ·show o.refs.length*24≤_
  omega
def Jv(r:Ap.St×Int)(w:World)(e:Ending)(w':World):Prop:=∃x:Sh,x.v=r.1∧e=.returned (.tuple #[x.enc,.int .i64 r.2])∧Kn w.heap.size w w' [] (mQ x.q)
def shz:Sh:=⟨0,⟨none,0,0,[]⟩,tz⟩
theorem Ij{w w':World}{n:Int}(h:Below w.heap.size w w'):Jv (aA.zm,n) w (.returned (.tuple #[.agg (stA 0 none 0 0 tz),.int .i64 n])) w':=
 ⟨shz,rfl,rfl,((Kn.start w).call h).Cq bB⟩
theorem KJ{f:Func}{Q:Ending→World→Prop}{a:Act}{w:World}{B:Nat}{n:Int}{A:Option Addr}{k c:Nat}{t:aG.T}{u:Value}{q q2:Tmp}(hf:f.results=#[.cell q 33,.tmp q2])(hb:eT w B 33 (stA n A k c t))
  (h2:a.tmps[q]?=some (.pointer (some ⟨B,0,none⟩)):=by rfl)(h3:a.tmps[q2]?=some u:=by rfl)(hd:a.defers=[]:=by rfl)(hR:Q (.returned (.tuple #[.agg (stA n A k c t),u])) w:=by rw[HN.out];exact Ij HK.out.b):bodyPost prog f Q Exit.ret a w:=jD hf (h2:=h2) (h3:=h3) (hd:=hd) hb hR
theorem Sh.obs{b0:Nat}{w0 w:World}{L:List (Nat×TypeId×Array Value)}{R:List bV}{x:Sh}{c:Bool}(k:Kn b0 w0 w L R)(hR:∀y∈mQ x.q,y∈R)(hf:aA.Fit (aA.mH x.v))(hg:aA.Zd c x.v)(hl:(aA.mH x.v).length≤16384):dS w x.q.A x.q.n x.q.c x.q.l∧aG.Fit x.t:=by
 obtain⟨h1,h2⟩:=aA.aie hf hg hl;have hm:row bB (.slice x.q.A x.q.n x.q.c) x.q.l∈R:=hR _ (List.mem_cons_self ..);have hn:=(k.mem hm).reads.1;have h1':(vs x.q.l).length≤16384:=h1;rw[gq] at h1';exact⟨k.obs hm (fun y hy=>hR y (List.mem_cons_of_mem _ hy)) h2 (by omega),(aA.akg hg).t⟩
theorem pY(b:ByteArray)(w:World)(hs:b.size≤140737488351232:=by decide):Calls prog 6 #[.string b] w (Jv (aA.D false b) w):=by
 have HD:Hid (∀W,Calls prog 12 #[.string b] W fun e w'=>∃A n c,e=.returned (.tuple #[.slice A n c,.int .i64 (aF.D b).2])∧aD.Own W.heap.size w' (.slice A n c) ((aF.D b).1.map aA.Vf)∧Below W.heap.size W w'):=zH fun W=>(Ml b W hs).mono fun e w' h=>by
  obtain⟨v,h1,h2,h3⟩:=h;have ho:=aav h2;obtain⟨A,c,rfl⟩:=ho.shape;exact⟨A,_,c,h1,ho,h3⟩
 have HK:=zH (Kn.start w);by_cases hz:(aF.D b).2=0
 case neg=>
  have HN:Hid (aA.D false b=(aA.zm,(aF.D b).2)):=zH (if_neg hz);rw[HN.out];have hz2:((aF.D b).2 != 0)=true:=by simpa using hz
  generalize (aF.D b).2=z at *
  clear hz HN hs;go_enter func6,ntmps6;go_wp2_with (refine bF HK ?_;clear HK;intro _ g1 HK;simp only[aK] at HK);refine(HD.out _).mono ?_;rintro e w1 ⟨A,n,c,rfl,o1,b1⟩;replace HK:=iH HK b1;clear o1 b1 HD;go_wp2_with (first|refine zX (oU) ?_|(refine bg (m:=0) (B:=none) (i:=0) (j:=0) (u:=tz) HK 0 ?_;clear HK;intro _ HK;simp only[lS] at HK));exact KJ results6 (HK.out.blk 0 rfl) (hR:=(Ij HK.out.b))
 case pos=>
 have hfit:=aA.WE hz;obtain⟨l0,hl0,hsz,hall,_⟩:=aF.agH hz
 have hlen:((aF.D b).1.map aA.Vf).length≤16384:=by
  have h1:=Af l0;have h2:(aF.all l0).length=b.size:=by rw[hall];exact Array.length_toList
  rw[hl0,List.length_map]
  show l0.length≤_
  omega
 have HDD:Hid (aA.D false b=aA.D1 false ((aF.D b).1.map aA.Vf)):=zH (if_pos hz);rw[HDD.out];rw[hz] at HD;generalize (aF.D b).1.map aA.Vf=l at *
 clear hz hl0 hsz hall HDD hs;have HF:=zH hfit;have HL:=zH hlen;clear hfit hlen;go_enter func6,ntmps6;go_wp2_with (refine bF HK ?_;clear HK;intro _ g1 HK;simp only[aK] at HK);refine(HD.out _).mono ?_;rintro e w1 ⟨A,n,c,rfl,o1,b1⟩;have hrd:=Lay.Own.rd o1;have hrn:=(Lay.Own.reads o1).1;have hcap:=Lay.Own.cap o1;have adD:=zH (xE A n c l w1 hrd.1 hrn.symm hrd.2 (by omega) (by have:=HL.out;omega));replace HK:=iH HK b1;clear o1 b1 HD hrd hrn hcap;go_wp2_with fail;refine(adD.out).mono ?_;intro e w2 hq;clear adD;unfold qy at hq
 rcases hp:aA.stP false l with _|⟨s,r⟩
 ·rw[hp] at hq
  obtain⟨rfl,b2⟩:=hq;have HN:Hid (aA.D1 false l=(aA.zm,3)):=zH (by unfold aA.D1;rw[hp]);replace HK:=iH HK b2;clear hp b2;go_wp2_with (first|go_big_skip|(refine bF HK ?_;clear HK;intro _ g3 HK;simp only[aS,aK] at HK)|(refine bg (m:=0) (B:=none) (i:=0) (j:=0) (u:=tz) HK 1 ?_;clear HK;intro _ HK;simp only[lS] at HK)|refine zX (oU) ?_|(refine bg (m:=0) (B:=none) (i:=0) (j:=0) (u:=tz) HK 0 ?_;clear HK;intro _ HK;simp only[lS] at HK));exact SL
 rw[hp] at hq;obtain⟨x,bb,hx,hbb,rfl,k2⟩:=hq;obtain⟨e1,e2⟩:=aA.Nj HF.out hp;by_cases hr:r=[]
 case neg=>
  have hb:bb=false:=by
   cases bb
   ·rfl
   ·exact absurd (hbb.1 rfl) hr
  subst hb
  have HN:Hid (aA.D1 false l=(aA.zm,3)):=zH (by
   unfold aA.D1;rw[hp]
   match r,hr with
   | [],hr=>exact absurd rfl hr
   | y::t,_=>rfl)
  replace HK:=zH (HK.out.call k2.b);clear hp k2 e1 e2 hbb hr hx;unfold Sh.enc;go_wp2_with (first|go_big_skip|(refine bF HK ?_;clear HK;intro _ g3 HK;simp only[aS,aK] at HK)|(refine bg (m:=x.n) (B:=x.q.A) (i:=x.q.n) (j:=x.q.c) (u:=x.t) HK 1 ?_;clear HK;intro _ HK;simp only[lS] at HK)|refine zX (oU) ?_|(refine bg (m:=0) (B:=none) (i:=0) (j:=0) (u:=tz) HK 0 ?_;clear HK;intro _ HK;simp only[lS] at HK));exact SL
 case pos=>
 subst hr;rw[List.append_nil] at e1;have hb:bb=true:=hbb.2 rfl;subst hb;subst hx;rw[e1] at HF HL;replace HK:=zH (HK.out.join k2);simp only[aK] at HK
 have nN:Hid (∀W L,Kn w.heap.size w W L (mQ x.q)→Calls prog 9 #[.agg (stA x.n x.q.A x.q.n x.q.c x.t)] W (dw (decide (Ap.Ok x.v)) W)):=zH fun W L hk=>by
  obtain⟨ho,hf⟩:=Sh.obs hk (fun y hy=>hy) HF.out e2 HL.out;exact yQ x.n x.q.A x.q.n x.q.c x.t x.q.l W ho hf
 by_cases hok:Ap.Ok x.v
 ·have HN:Hid (aA.D1 false l=(x.v,0)):=zH (by unfold aA.D1;rw[hp];exact if_pos hok)
  rw[decide_eq_true hok] at nN;unfold dw at nN;clear hp k2 e1 e2 hbb hok;unfold Sh.enc;go_wp2_with (first|go_big_skip|(refine bF HK ?_;clear HK;intro _ g3 HK;simp only[aS,aK] at HK)|(refine bg (m:=x.n) (B:=x.q.A) (i:=x.q.n) (j:=x.q.c) (u:=x.t) HK 1 ?_;clear HK;intro _ HK;simp only[lS] at HK)|refine zX (lq HK 1) ?_);refine(nN.out _ _ HK.out).mono ?_;rintro e w3 ⟨rfl,b3⟩;replace HK:=iH HK b3;clear b3 nN;go_wp2_with (first|refine zX (lq HK 1) ?_|(refine bg (m:=x.n) (B:=x.q.A) (i:=x.q.n) (j:=x.q.c) (u:=x.t) HK 0 ?_;clear HK;intro _ HK;simp only[lS] at HK));exact KJ results6 (HK.out.blk 0 rfl) (hR:=(by rw[HN.out];exact⟨x,rfl,rfl,HK.out.aB 0⟩))
 ·have HN:Hid (aA.D1 false l=(aA.zm,3)):=zH (by unfold aA.D1;rw[hp];exact if_neg hok)
  rw[decide_eq_false hok] at nN;unfold dw at nN;clear hp k2 e1 e2 hbb hok;unfold Sh.enc;go_wp2_with (first|go_big_skip|(refine bF HK ?_;clear HK;intro _ g3 HK;simp only[aS,aK] at HK)|(refine bg (m:=x.n) (B:=x.q.A) (i:=x.q.n) (j:=x.q.c) (u:=x.t) HK 1 ?_;clear HK;intro _ HK;simp only[lS] at HK)|refine zX (lq HK 1) ?_);refine(nN.out _ _ HK.out).mono ?_;rintro e w3 ⟨rfl,b3⟩;replace HK:=iH HK b3;clear b3 nN;go_wp2_with (first|refine zX (oU) ?_|(refine bg (m:=0) (B:=none) (i:=0) (j:=0) (u:=tz) HK 0 ?_;clear HK;intro _ HK;simp only[lS] at HK));exact SL
end
section
namespace aA
def aw:ByteArray:=⟨#[0,0,0,0,0,0,0,0,0,0,0,0,0,0,0,0,0,0,0,0,0,0,0,0,0,0,0,0,0,0,0,0]⟩
theorem afo:Ap.Ok zm:=Ap.aiL
theorem Ox:Fit (mH zm):=by
 intro x hx;have h:∀y∈mH zm,y=n1 0∨y=t1 Val.emp:=by decide
 rcases h x hx with rfl|rfl<;>exact⟨fun _=>rfl,fun _=>rfl,by decide,by decide⟩
theorem aaO:Ft zm:=⟨fun o ho=>(by cases ho),fun o ho=>(by cases ho),fun o ho=>(by cases ho),fun c hc=>by
 rcases aG.fO hc with rfl|rfl|rfl|rfl|rfl<;>decide⟩
theorem Va:aF.one (toW (n1 0))=[0]:=by
 simp[aF.one,toW,n1,aF.lead,aF.fold,aF.nb,aF.B]
theorem alC:(mH zm).map toW=List.replicate 32 (toW (n1 0)):=rfl
theorem zS{x:aF.It}(b:UInt8)(h:aF.one x=[b]):∀n,aF.all (List.replicate n x)=List.replicate n b
 | 0=>rfl
 | n+1=>by
  have e:=zS (x:=x) b h n;unfold aF.all at e ⊢;rw[List.replicate_succ,List.flatMap_cons,h,e]
  rfl
theorem ajx:E zm=(aw,0):=by
 rw[RZ afo Ox,alC,zS 0 Va]
 rfl
theorem alD:D false aw=(zm,0):=by
 have h:=back afo Ox aaO false;rw[ajx] at h;exact h
theorem alB:aF.D (aw++⟨#[0]⟩)=(List.replicate 33 (toW (n1 0)),0):=by
 have hg:∀x∈List.replicate 33 (toW (n1 0)),x=toW (n1 0):=fun x hx=>(List.mem_replicate.1 hx).2
 have e:aF.E (List.replicate 33 (toW (n1 0)))=(⟨(aF.all (List.replicate 33 (toW (n1 0)))).toArray⟩,0):=aF.Yd (by decide) (by rw[zS 0 Va];decide);have h:=aF.back (l:=List.replicate 33 (toW (n1 0))) (fun x hx=>by rw[hg x hx];exact⟨by decide,by decide⟩) (by rw[e]);rw[e,zS 0 Va] at h;exact h
theorem ajy:D false (aw++⟨#[0]⟩)=(zm,3):=by
 unfold D;rw[alB]
 rfl
end aA
theorem Sh.nz{x:Sh}(h:x.v=aA.zm):x.n=0∧x.t=tz∧x.q.l=[]:=by
 obtain⟨n,⟨A,k,c,l⟩,t⟩:=x;have h1:=congrArg Ap.St.n h;have h2:=congrArg Ap.St.t h;have h3:=congrArg Ap.St.l h;exact⟨h1,h2,List.map_eq_nil_iff.1 h3⟩
theorem Gj(w:World):Calls prog 5 #[] w (dw true w):=by
 have HK:=zH (Kn.start w)
 have HE:Hid (∀W,Calls prog 4 #[.agg (stA 0 none 0 0 tz)] W (Cx (aA.aw,0) W)):=zH fun W=>by
  have h:=sj 0 none 0 0 tz [] W ⟨bT.none _,fun x hx=>by cases hx⟩ aA.aaO.t aA.Ox;rw[show(⟨0,vs [],tz⟩:Ap.St)=aA.zm from rfl,aA.ajx] at h;exact h
 have HD1:Hid (∀W,Calls prog 6 #[.string (aA.aw++⟨#[0]⟩)] W (Jv (aA.zm,3) W)):=zH fun W=>by
  have h:=pY (aA.aw++⟨#[0]⟩) W;rw[aA.ajy] at h;exact h
 have HD2:Hid (∀W,Calls prog 6 #[.string aA.aw] W (Jv (aA.zm,0) W)):=zH fun W=>by
  have h:=pY aA.aw W;rw[aA.alD] at h;exact h
 have hl:(aA.aw.size:Int)=32:=rfl;generalize aA.aw=b at *
 unfold Cx at HE;unfold dw;go_enter func5,ntmps5;go_wp2_with fail;refine cb (HE.out _) HK ?_;clear HK;intro _ HK;go_wp2_with fail;refine(HD1.out _).mono ?_;rintro e w1 ⟨x,hx,rfl,k1⟩;replace HK:=zH (HK.out.join k1);clear k1 hx;obtain⟨n1,⟨A1,k1,c1,l1⟩,t1⟩:=x;unfold Sh.enc;dsimp only at HK ⊢;go_wp2_with (first|(refine bF HK ?_;clear HK;intro _ g1 HK;simp only[aK,List.append_nil] at HK)|(refine bg HK 0 ?_;clear HK;intro _ HK;simp only[lS] at HK));refine(HD2.out _).mono ?_;rintro e w1 ⟨x,hx,rfl,k1⟩;replace HK:=zH (HK.out.join k1);clear k1;obtain⟨n2,⟨A2,k2,c2,l2⟩,t2⟩:=x;obtain rfl:n2=0:=(Sh.nz hx).1;clear hx;unfold Sh.enc;simp only[List.append_nil] at HK;dsimp only at HK ⊢;go_wp2_with (first|(refine bF HK ?_;clear HK;intro _ g2 HK;simp only[aS,aK] at HK)|(refine bg HK 1 ?_;clear HK;intro _ HK;simp only[lS] at HK)|refine zX (lg HK 1) ?_);exact nu
end
section
namespace aA
structure Q{α:Type}(p:P α)(l:Its)(a:Nat)(b:Bool)(x:α)(a':Nat)(b':Bool):Prop where
 good:b'=false→b=false∧p (l.drop a)=some (x,l.drop a')∧a'≤l.length
 bad:b=false→¬p (l.drop a)=none→b'=false
theorem Q.ret{α:Type}(x:α){l:Its}{a:Nat}{b:Bool}(h:b=false→a≤l.length):Q (ret x) l a b x a b:=⟨fun e=>⟨e,rfl,h e⟩,fun e _=>e⟩
theorem Q.bnd{α β:Type}{p:P α}{f:α→P β}{l:Its}{a a1 a2:Nat}{b b1 b2:Bool}{x:α}{y:β}(h:Q p l a b x a1 b1)(k:Q (f x) l a1 b1 y a2 b2):Q (bnd p f) l a b y a2 b2:=by
 refine⟨fun e=>?_,fun e hn=>?_⟩
 ·obtain⟨e1,k1,k2⟩:=k.good e
  obtain⟨e0,h1,h2⟩:=h.good e1;exact⟨e0,(aV h1).trans k1,k2⟩
 ·have hp:¬p (l.drop a)=none:=fun q=>hn (by unfold aA.bnd;rw[q])
  have e1:=h.bad e hp;obtain⟨_,h1,_⟩:=h.good e1;exact k.bad e1 fun q=>hn ((aV h1).trans q)
theorem Q.le{α:Type}{p:P α}{l:Its}{a a':Nat}{b b':Bool}{x:α}(h:Q p l a b x a' b')(e:b'=false):a'≤l.length:=(h.good e).2.2
theorem Q.to{α:Type}{p q:P α}{l:Its}{a a':Nat}{b b':Bool}{x:α}(h:Q p l a b x a' b')(e:p (l.drop a)=q (l.drop a)):Q q l a b x a' b':=⟨fun k=>by rw[← e];exact h.good k,fun k n=>h.bad k (by rw[e];exact n)⟩
theorem Q.map{α β:Type}{p:P α}{l:Its}{a a':Nat}{b b':Bool}{x:α}(h:Q p l a b x a' b')(f:α→β):Q (aA.bnd p fun x=>aA.ret (f x)) l a b (f x) a' b':=h.bnd (Q.ret _ h.le)
def gi(l:Its)(a:Nat):Int×Bool:=match l[a]? with
 | some x=>if x.k=0 then (x.n,true) else (0,false)
 | none=>(0,false)
def gt(l:Its)(a:Nat):ByteArray×Bool:=match l[a]? with
 | some x=>if x.k=1 then (x.s,true) else (⟨#[]⟩,false)
 | none=>(⟨#[]⟩,false)
theorem drop_at{l:Its}{a:Nat}{x:ny.It}(h:l[a]?=some x):l.drop a=x::l.drop (a+1):=by
 obtain⟨h1,h2⟩:=List.getElem?_eq_some_iff.1 h;rw[List.drop_eq_getElem_cons h1,h2]
theorem abl{l:Its}{a:Nat}(h:l[a]?=none):l.drop a=[]:=List.drop_eq_nil_of_le (List.getElem?_eq_none_iff.1 h)
theorem Q.num(l:Its)(a:Nat)(b:Bool):Q num l a b (gi l a).1 (a+1) (b || !(gi l a).2):=by
 cases h:l[a]? with
 | none=>
  have e:gi l a=(0,false):=by unfold gi;rw[h]
  exact acn
 | some x=>
  have hl:=(List.getElem?_eq_some_iff.1 h).1;by_cases hk:x.k=0
  ·have e:gi l a=(x.n,true):=by unfold gi;rw[h];exact if_pos hk
   exact acL
  ·have e:gi l a=(0,false):=by unfold gi;rw[h];exact if_neg hk
   exact acv
theorem Q.txt(l:Its)(a:Nat)(b:Bool):Q txt l a b (gt l a).1 (a+1) (b || !(gt l a).2):=by
 cases h:l[a]? with
 | none=>
  have e:gt l a=(⟨#[]⟩,false):=by unfold gt;rw[h]
  exact acn
 | some x=>
  have hl:=(List.getElem?_eq_some_iff.1 h).1;by_cases hk:x.k=1
  ·have e:gt l a=(x.s,true):=by unfold gt;rw[h];exact if_pos hk
   exact acL
  ·have e:gt l a=(⟨#[]⟩,false):=by unfold gt;rw[h];exact if_neg hk
   exact acv
def cnt(m:Int):P Nat:=bnd num fun n=>if n<0∨m<n then fun _=>none else ret n.toNat
theorem Ay{α:Type}(p:P α):∀(n:Nat) (l:Its),rep p (n+1) l=bnd (rep p n) (fun xs=>bnd p fun x=>ret (xs++[x])) l
 | 0,l=>by
  show bnd p (fun x=>bnd (rep p 0) fun l=>ret (x::l)) l=bnd p (fun x=>ret ([]++[x])) l
  unfold bnd;cases h:p l<;>rfl
 | n+1,l=>by
  show bnd p (fun x=>bnd (rep p (n+1)) fun l=>ret (x::l)) l=bnd (bnd p (fun x=>bnd (rep p n) fun l=>ret (x::l))) (fun xs=>bnd p fun x=>ret (xs++[x])) l
  cases h:p l with
  | none=>unfold bnd;simp only[h]
  | some z=>
   obtain⟨x,r⟩:=z;have ih:=Ay p n r;unfold bnd at ih ⊢;simp only[h,ih]
   cases h2:rep p n r with
   | none=>rfl
   | some z2=>
    obtain⟨ys,r2⟩:=z2;simp only[ret]
    cases h3:p r2 with
    | none=>rfl
    | some z3=>rfl
theorem Q.more{α:Type}{p:P α}{l:Its}{a a1 a2 i:Nat}{b b1 b2:Bool}{xs:List α}{x:α}(h:Q (rep p i) l a b xs a1 b1)(k:Q p l a1 b1 x a2 b2):Q (rep p (i+1)) l a b (xs++[x]) a2 b2:=
 (h.bnd (k.map fun x=>xs++[x])).to (Ay p i _).symm
theorem Gz{α:Type}{p:P α}{i:Nat}:∀(n:Nat) {l:Its},rep p i l=none→i≤n→rep p n l=none
 | 0,l,h,hi=>by
  obtain rfl:i=0:=by omega
  exact h
 | n+1,l,h,hi=>by
  by_cases e:i=n+1
  ·rw[← e];exact h
  ·rw[Ay]
   unfold bnd;rw[Gz n h (by omega)]
theorem Q.stop{α:Type}{p:P α}{l:Its}{a a1 i n:Nat}{b:Bool}{xs:List α}(h:Q (rep p i) l a b xs a1 true)(hi:i≤n):Q (rep p n) l a b xs a1 true:=
 ⟨(fun e=>by cases e),fun e hn=>h.bad e fun q=>hn (Gz n q hi)⟩
end aA
end
section
namespace aA
inductive At(l:Its)(a:Nat):Prop where
 | none (h:(gi l a).2=false) (v:val (l.drop a)=Option.none)
 | kind (k:Int) (h:gi l a=(k,true)) (hk:k<0∨3<k) (v:val (l.drop a)=Option.none)
 | zero (h:gi l a=(0,true)) (v:val (l.drop a)=some (⟨0,0,0,Val.emp⟩,l.drop (a+1))) (hl:a+1≤l.length)
 | anK (h:gi l a=(1,true)) (h2:(gi l (a+1)).2=false) (v:val (l.drop a)=Option.none)
 | int (m:Int) (h:gi l a=(1,true)) (h2:gi l (a+1)=(m,true)) (v:val (l.drop a)=some (⟨1,m,0,Val.emp⟩,l.drop (a+2))) (hl:a+2≤l.length)
 | anV (h:gi l a=(2,true)) (h2:(gi l (a+1)).2=false) (v:val (l.drop a)=Option.none)
 | anU (m:Int) (h:gi l a=(2,true)) (h2:gi l (a+1)=(m,true)) (hc:¬Val.aX ⟨2,0,Val.us m,Val.emp⟩=0) (v:val (l.drop a)=Option.none)
 | flo (m:Int) (h:gi l a=(2,true)) (h2:gi l (a+1)=(m,true)) (hc:Val.aX ⟨2,0,Val.us m,Val.emp⟩=0) (v:val (l.drop a)=some (⟨2,0,Val.us m,Val.emp⟩,l.drop (a+2))) (hl:a+2≤l.length)
 | anr (h:gi l a=(3,true)) (h2:(gt l (a+1)).2=false) (v:val (l.drop a)=Option.none)
 | anq (s:ByteArray) (h:gi l a=(3,true)) (h2:gt l (a+1)=(s,true)) (hc:¬Val.aX ⟨3,0,0,s⟩=0) (v:val (l.drop a)=Option.none)
 | txt (s:ByteArray) (h:gi l a=(3,true)) (h2:gt l (a+1)=(s,true)) (hc:Val.aX ⟨3,0,0,s⟩=0) (v:val (l.drop a)=some (⟨3,0,0,s⟩,l.drop (a+2))) (hl:a+2≤l.length)
end aA
end
section
theorem aA.Q.Mq{m:Int}{l:aA.Its}{a a1:Nat}{b b1:Bool}{v:Int}(h:aA.Q aA.num l a b v a1 b1)(hv:v<0∨m<v):aA.Q (aA.cnt m) l a b 0 a1 true:=by
 refine⟨(fun e=>by cases e),fun e hn=>?_⟩;have hp:¬aA.num (l.drop a)=none:=fun q=>hn (aA.bf q)
 obtain⟨_,h1,_⟩:=h.good (h.bad e hp);refine absurd ?_ hn;have e2:aA.cnt m (l.drop a)=(if v<0∨m<v then fun _=>none else aA.ret v.toNat) (l.drop a1):=aA.aV h1;rw[e2,if_pos hv]
end
section
theorem aA.Q.fin{α:Type}{p:aA.P α}{l:aA.Its}{a a1 i N:Nat}{b b1:Bool}{xs:List α}(h:aA.Q (aA.rep p i) l a b xs a1 b1)(hi:i≤N)(hq:¬(i<N∧b1=false)):aA.Q (aA.rep p N) l a b xs a1 b1:=by
 by_cases e:i=N
 ·rw[← e];exact h
 ·cases b1 with
  | false=>exact absurd ⟨by omega,rfl⟩ hq
  | true=>exact h.stop hi
end
section
theorem place{s:ByteArray}{p:Nat}{c:UInt8}{r:List UInt8}(hp:s.data.toList.drop p=c::r):p+1+r.length=s.size∧∀j d,(c::r)[j]?=some d→s.data.toList[p+j]?=some d:=by
 refine⟨?_,fun j d h=>by rw[← hp,List.getElem?_drop] at h;exact h⟩;have:=congrArg List.length hp;rw[List.length_drop,Array.length_toList,List.length_cons] at this
 show _=s.data.size
 omega
end
section
namespace aA
def tbF:Nat→P aG.T
 | 0=>ret tz
 | i+1=>bnd (tbF i) fun t=>bnd Kt fun s=>ret (t.set (i:Int) s)
theorem Q.tb{l:Its}{a a1 a2 i:Nat}{b b1 b2:Bool}{t:aG.T}{s:aG.S}(h:Q (tbF i) l a b t a1 b1)(k:Q Kt l a1 b1 s a2 b2):Q (tbF (i+1)) l a b (t.set (i:Int) s) a2 b2:=h.bnd (k.map fun s=>t.set (i:Int) s)
theorem Q.D{l:Its}{x:Ap.St}{a:Nat}{b:Bool}(h:Q (stP true) l 0 false x a b):(b=true→D1 true l=(zm,3))∧(b=false→¬a=l.length→D1 true l=(zm,3))∧(b=false→a=l.length→stP true l=some (x,[])):=by
 refine⟨fun e=>?_,fun e ha=>?_,fun e ha=>?_⟩
 ·have hn:stP true l=none:=by
   cases hp:stP true l with
   | none=>rfl
   | some z=>
    have h2:=h.bad rfl (by rw[List.drop_zero,hp];exact fun q=>by cases q);rw[e] at h2;cases h2
  unfold D1;rw[hn]
 ·obtain⟨_,h1,h2⟩:=h.good e
  rw[List.drop_zero] at h1;unfold D1;rw[h1]
  cases hd:l.drop a with
  | nil=>exact absurd (by have:=congrArg List.length hd;simp at this;omega) ha
  | cons y t=>rfl
 ·obtain⟨_,h1,h2⟩:=h.good e
  rw[List.drop_zero] at h1;rw[h1,List.drop_eq_nil_of_le (by omega)]
end aA
end
end Go.Proofs.YtahdlddbbnjloaaGreat
