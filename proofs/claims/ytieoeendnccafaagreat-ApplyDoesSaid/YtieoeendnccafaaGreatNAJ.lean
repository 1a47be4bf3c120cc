/- Replies of commands may be. No condition but those named. -/
import Derived.Test.YtieoeendnccafaaGreatNAI
set_option linter.unusedSimpArgs false
set_option linter.unusedVariables false
set_option maxRecDepth 100000
set_option maxHeartbeats 25600000
open Go.RowKit
namespace Go.Proofs.YtieoeendnccafaaGreat
section
namespace Mt
theorem ahP{u:Nat}{v:Nat}:Num.S u v<18446744073709551616:=by
 unfold Num.S
 split
 ·rename_i r h
  exact Num.qA (Ieee.Format.add_lt _ h)
 ·decide
theorem ads{u:Nat}{v:Nat}:Num.M (Num.S u v)=Num.S u v:=by
 unfold Num.S
 split
 ·exact Num.M_M _
 ·rfl
theorem KO{a:Nat}{b:Nat}:Num.M (least a b)=least a b:=by unfold least;split<;>exact Num.M_M _
theorem PI{a:Nat}{b:Nat}:Num.M (most a b)=most a b:=by unfold most;split<;>exact Num.M_M _
theorem Ky(a b:Nat):Num.rank (least a b)≤Num.rank a∧Num.rank (least a b)≤Num.rank b:=by
 unfold least;split<;>simp only[Num.Kz]<;>omega
theorem Pb(a b:Nat):Num.rank a≤Num.rank (most a b)∧Num.rank b≤Num.rank (most a b):=by
 unfold most;split<;>simp only[Num.Kz]<;>omega
theorem UY{x:mG}{b:Nat}(hf:Fit x)(hb:b<18446744073709551616):Fit (ad x b):=by
 unfold ad
 split
 ·exact hf
 ·split
  ·exact hf
  ·split
   ·exact⟨by show(1:Int)≤_;decide,Num.qA hb,Num.qA hb,Num.qA hb⟩
   ·rename_i h1 h2 h3
    refine⟨?_,ahP,Ua hf.2.2.1 (Num.qA hb),XV hf.2.2.2 (Num.qA hb)⟩;have:=hf.1
    show x.n+1≤_
    omega
structure Inv(l:List Nat)(x:mG):Prop where
 n:x.n=(l.length:Int)
 ok:Ok x
 fit:Fit x
 le:∀b∈l,Num.rank x.l≤Num.rank b∧Num.rank b≤Num.rank x.m
 hit:l≠[]→(∃b∈l,Num.M b=x.l)∧(∃b∈l,Num.M b=x.m)
theorem Inv.sum{l:List Nat}{x:mG}(h:Inv l x)(hn:l.length<9223372036854775807)(b:Nat):(ad x b).s=if l.length=0 then Num.M b else Num.S x.s b:=by
 have hmx:x.n≠9223372036854775807:=by rw[h.n];omega
 by_cases h0:l.length=0
 ·rw[if_pos h0,BJ h.ok (by rw[h.n,h0];rfl)]
 ·have hz:x.n≠0:=by rw[h.n];omega
  rw[if_neg h0,xw h.ok hmx hz]
  have hs:Num.M x.s=x.s:=by
   rcases h.ok with ⟨h1,_⟩|h1
   ·exact absurd h1 hz
   ·exact h1.2.1
  show Num.S x.s (Num.M b)=Num.S x.s b
  have e:=Num.S_M x.s (Num.M b);rw[Num.M_M,Num.S_M] at e;exact e.symm
/- Two floats in either order. -/
theorem KP{a b:Nat}(ha:a<18446744073709551616)(hb:b<18446744073709551616):least a b=least b a:=by
 unfold least
 rcases Nat.lt_trichotomy (Num.rank a) (Num.rank b) with h|h|h
 ·rw[if_neg (by omega),if_pos h]
 ·rw[if_neg (by omega),if_neg (by omega)];exact Num.Gv ha hb h
 ·rw[if_pos h,if_neg (by omega)]
theorem PK{a b:Nat}(ha:a<18446744073709551616)(hb:b<18446744073709551616):most a b=most b a:=by
 unfold most
 rcases Nat.lt_trichotomy (Num.rank a) (Num.rank b) with h|h|h
 ·rw[if_pos h,if_neg (by omega)]
 ·rw[if_neg (by omega),if_neg (by omega)];exact Num.Gv ha hb h
 ·rw[if_neg (by omega),if_pos h]
theorem ok_one(a:Nat):Ok ⟨1,Num.M a,Num.M a,Num.M a⟩:=.inr ⟨(by decide:(0:Int)<1),Num.M_M a,Num.M_M a,Num.M_M a,Nat.le_refl _⟩
theorem two(a b:Nat):ad (ad zero a) b=⟨2,Num.S (Num.M a) (Num.M b),least (Num.M a) (Num.M b),most (Num.M a) (Num.M b)⟩:=by
 rw[BJ Mv rfl,xw (ok_one a) (by show(1:Int)≠_;decide) (by show(1:Int)≠_;decide)]
 rfl
theorem turned{a b:Nat}(ha:a<18446744073709551616)(hb:b<18446744073709551616):ad (ad zero a) b=ad (ad zero b) a:=by
 rw[two,two,Num.Wp,KP (Num.qA ha) (Num.qA hb),PK (Num.qA ha) (Num.qA hb)]
end Mt
end
section
namespace aK
theorem Gz{l:List Pr}(h:Right l)(k:ByteArray)(v:Val.V):Right (uL l k v):=by
 unfold uL
 split
 next he=>
  unfold rT at he;rw[if_pos h] at he
  split at he
  next hp=>
   split at he
   next hn=>exact PZ h hp hn
   next=>cases he
  next hp=>exact absurd he hp
 next=>exact h
theorem Vu{l:List Pr}(h:Right l)(k:ByteArray):Right (Qo l k):=by
 unfold Qo
 split
 ·exact pU h k
 ·exact h
theorem RV{l:List Pr}(h:Right l)(k:ByteArray)(o v:Val.V):Right (FP l k o v):=by
 unfold FP
 split
 next he=>
  split
  next=>exact pU h k
  next hv=>
   unfold Ah at he;rw[if_pos h] at he
   split at he
   next hg=>
    have hp:=Gz h k v;unfold uL at hp
    rwa [if_pos he] at hp
   next=>cases he
 next=>exact h
end aK
namespace Mt
theorem Wj{x:mG}(h:Ok x)(b:Nat):Ok (ad x b):=by
 by_cases hm:x.n=9223372036854775807
 ·rw[FH h hm];exact h
 by_cases h0:x.n=0
 ·rw[BJ h h0];exact ok_one b
 rw[xw h hm h0]
 have hok:0<x.n∧Num.M x.s=x.s∧Num.M x.l=x.l∧Num.M x.m=x.m∧Num.rank x.l≤Num.rank x.m:=by
  rcases h with ⟨h1,_⟩|h1
  ·exact absurd h1 h0
  ·exact h1
 obtain⟨o1,o2,o3,o4,o5⟩:=hok;have r1:=Ky x.l (Num.M b);have r2:=Pb x.m (Num.M b);rw[Num.Kz] at r1 r2;exact .inr ⟨by show 0<x.n+1;omega,ads,KO,PI,by show Num.rank (least x.l (Num.M b))≤Num.rank (most x.m (Num.M b));omega⟩
end Mt
namespace av
theorem Ph{l:List Ob}(h:Up l)(k:ByteArray):(∀x∈l.take (idx l k),aK.lt x.name k=true)∧(∀x∈l.drop (fin l k),aK.lt k x.name=true):=by
 induction l with
 | nil=>exact⟨fun x hx=>by simp at hx,fun x hx=>by simp at hx⟩
 | cons x r ih=>
  obtain⟨i1,i2⟩:=ih (List.pairwise_cons.1 h).2
  rcases aK.AO x.name k with hk|hk|hk
  ·obtain⟨e1,e2⟩:=kC (r:=r) hk
   rw[e1,e2];refine⟨fun y hy=>?_,i2⟩;rw[List.take_succ_cons] at hy
   rcases List.mem_cons.1 hy with rfl|hy
   ·exact hk
   ·exact i1 y hy
  ·subst hk
   obtain⟨e1,e2⟩:=oN (x:=x) (r:=r);rw[e1,e2];exact⟨fun y hy=>by simp at hy,above h (.inl rfl)⟩
  ·obtain⟨e1,e2⟩:=kD (r:=r) hk
   rw[e1,e2];refine⟨fun y hy=>by simp at hy,fun y hy=>?_⟩
   rcases List.mem_cons.1 hy with rfl|hy
   ·exact hk
   ·exact above h (.inr hk) y hy
theorem CY{l:List Ob}(h:Right l){k:ByteArray}{o:Ob}(hn:o.name=k)(ho:One o=true)(hl:(jc l k).isSome=true∨¬l.length=8):Right (put l k o):=by
 obtain⟨p1,p2⟩:=Ph h.up k;obtain⟨_,_,h3,h4⟩:=fu h.up k;obtain⟨h5,h6⟩:=kQ l k;have h8:=h.len;subst hn;refine⟨?_,fun x hx=>?_,?_⟩
 ·unfold put
  rw[List.length_append,List.length_append,List.length_take,List.length_drop,List.length_singleton];by_cases hq:fin l o.name=idx l o.name
  ·rw[h3,if_pos hq] at hl
   rcases hl with hl|hl
   ·cases hl
   ·omega
  ·omega
 ·unfold put at hx
  rcases List.mem_append.1 hx with hx|hx
  ·rcases List.mem_append.1 hx with hx|hx
   ·exact h.ok x (List.mem_of_mem_take hx)
   ·rw[List.mem_singleton.1 hx];exact ho
  ·exact h.ok x (List.mem_of_mem_drop hx)
 ·unfold put Up
  rw[List.pairwise_append,List.pairwise_append];refine⟨⟨List.Pairwise.sublist (List.take_sublist _ _) h.up,List.pairwise_singleton _ _,fun a ha b hb=>?_⟩,List.Pairwise.sublist (List.drop_sublist _ _) h.up,fun a ha b hb=>?_⟩
  ·rw[List.mem_singleton.1 hb]
   exact p1 a ha
  ·rcases List.mem_append.1 ha with ha|ha
   ·exact aK.lt_trans (p1 a ha) (p2 b hb)
   ·rw[List.mem_singleton.1 ha]
    exact p2 b hb
theorem pU{l:List Ob}(h:Right l)(k:ByteArray):Right (wo l k):=
 ⟨Nat.le_trans (List.length_filter_le _ _) h.len,fun x hx=>h.ok x (xG.1 hx).1,LP h.up k⟩
section
variable {o:Ob}
theorem mq(q1:is o.kind=true)(q2:f0 o=false∨h0 o.kind=true)(q3:f1 o=false∨h1 o.kind=true)(q4:f2 o=false∨h2 o.kind=true)(q5:f3 o=false∨h3 o.kind=true)(q6:f4 o=false∨h4 o.kind=true)(q7:f5 o=false∨h5 o.kind=true):clean o=true:=by
 unfold clean;simp only[Bool.and_eq_true,Bool.or_eq_true,Bool.not_eq_true'];exact⟨q1,⟨⟨⟨⟨⟨q2,q3⟩,q4⟩,q5⟩,q6⟩,q7⟩⟩
theorem qx(h:clean o=true):is o.kind=true∧(f0 o=false∨h0 o.kind=true)∧(f1 o=false∨h1 o.kind=true)∧(f2 o=false∨h2 o.kind=true)∧(f3 o=false∨h3 o.kind=true)∧(f4 o=false∨h4 o.kind=true)∧(f5 o=false∨h5 o.kind=true):=by
 unfold clean at h;simp only[Bool.and_eq_true,Bool.or_eq_true,Bool.not_eq_true'] at h;obtain⟨a,⟨⟨⟨⟨⟨b,c⟩,d⟩,e⟩,f⟩,g⟩⟩:=h;exact⟨a,b,c,d,e,f,g⟩
theorem Eu(h:o.kind=1):sound o=decide (aK.Right o.dP):=by unfold sound;rw[if_pos h]
theorem Et(h:o.kind=2):sound o=decide (dK.Right o.cap o.vals):=by unfold sound;rw[if_neg (by omega),if_pos h]
theorem zw(h:o.kind=3):sound o=decide (aS.Right o.refs):=by unfold sound;rw[if_neg (by omega),if_neg (by omega),if_pos h]
theorem vX(h:o.kind=4):sound o=(decide (Gt.Right o.cap o.refs)&&decide (0≤o.round)):=by unfold sound;rw[if_neg (by omega),if_neg (by omega),if_neg (by omega),if_pos h]
theorem Es(h:o.kind=5):sound o=decide (Mt.Ok o.mt):=by unfold sound;rw[if_neg (by omega),if_neg (by omega),if_neg (by omega),if_neg (by omega),if_pos h]
theorem EK(h:One o=true)(hk:o.kind=1){m:List aK.Pr}(hm:aK.Right o.dP→aK.Right m):One { o with dP:=m } = true:=by
 obtain⟨a,b,c⟩:=jK h;obtain⟨b0,b1,b2,b3,b4,b5,b6⟩:=qx b;rw[Eu hk] at c;refine lV a (mq b0 b1 (.inr (by show h1 o.kind=true;rw[hk];rfl)) b3 b4 b5 b6) ?_;rw[Eu (o:={ o with dP:=m }) hk];exact LJ
theorem GK(h:One o=true)(hk:o.kind=2){m:List Val.V}(hm:dK.Right o.cap o.vals→dK.Right o.cap m):One { o with vals:=m } = true:=by
 obtain⟨a,b,c⟩:=jK h;obtain⟨b0,b1,b2,b3,b4,b5,b6⟩:=qx b;rw[Et hk] at c;refine lV a (mq b0 b1 b2 (.inr (by show h2 o.kind=true;rw[hk];rfl)) b4 b5 b6) ?_;rw[Et (o:={ o with vals:=m }) hk];exact LJ
theorem AA(h:One o=true)(hk:o.kind=3){m:List Rf}(hm:aS.Right o.refs→aS.Right m):One { o with refs:=m } = true:=by
 obtain⟨a,b,c⟩:=jK h;obtain⟨b0,b1,b2,b3,b4,b5,b6⟩:=qx b;rw[zw hk] at c;refine lV a (mq b0 b1 b2 b3 (.inr (by show h3 o.kind=true;rw[hk];rfl)) b5 b6) ?_;rw[zw (o:={ o with refs:=m }) hk];exact LJ
theorem AB(h:One o=true)(hk:o.kind=4){m:List Rf}{d:Int}(hm:Gt.Right o.cap o.refs→Gt.Right o.cap m)(hd:0≤o.round→0≤d):One { o with refs:=m,round:=d } = true:=by
 obtain⟨a,b,c⟩:=jK h;obtain⟨b0,b1,b2,b3,b4,b5,b6⟩:=qx b;rw[vX hk,Bool.and_eq_true] at c;refine lV a (mq b0 b1 b2 b3 (.inr (by show h3 o.kind=true;rw[hk];rfl)) (.inr (by show h4 o.kind=true;rw[hk];rfl)) b6) ?_;rw[vX (o:={ o with refs:=m,round:=d }) hk,Bool.and_eq_true];exact⟨decide_eq_true (hm (of_decide_eq_true c.1)),decide_eq_true (hd (of_decide_eq_true c.2))⟩
theorem aco(h:One o=true)(hk:o.kind=5){m:mG}(hm:Mt.Ok o.mt→Mt.Ok m):One { o with mt:=m } = true:=by
 obtain⟨a,b,c⟩:=jK h;obtain⟨b0,b1,b2,b3,b4,b5,b6⟩:=qx b;rw[Es hk] at c;refine lV a (mq b0 b1 b2 b3 b4 b5 (.inr (by show h5 o.kind=true;rw[hk];rfl))) ?_;rw[Es (o:={ o with mt:=m }) hk];exact LJ
theorem RH(h:One o=true)(hk:o.kind=4)(r:Rf):One (wait o r).o=true:=by
 unfold wait
 split
 next h0=>
  refine AB (d:=o.round) h hk (fun hr=>?_) id;by_cases he:Gt.qB o.cap o.refs r=0
  ·obtain⟨g1,g2,g3⟩:=Gt.Cv he
   by_cases hf:(o.refs.length:Int)+1=o.cap
   ·rw[(Gt.oz g1 g2 g3 hf).2.2,List.length_append] at h0
    simp at h0
   ·rw[(Gt.ow g1 g2 g3 hf).2.1]
    exact Gt.sD g1 g2 g3 hf
  ·rw[(Gt.vT (z:=Gt.qB o.cap o.refs r) rfl he).2.1]
   exact hr
 next h0=>
  split
  next=>exact h
  next=>
   refine AB h hk (fun hr=>?_) (fun hd=>by omega);by_cases he:Gt.qB o.cap o.refs r=0
   ·obtain⟨g1,g2,g3⟩:=Gt.Cv he
    by_cases hf:(o.refs.length:Int)+1=o.cap
    ·rw[(Gt.oz g1 g2 g3 hf).2.1]
     exact Gt.Gm hr.1 hr.2.1
    ·rw[(Gt.ow g1 g2 g3 hf).2.1]
     exact Gt.sD g1 g2 g3 hf
   ·rw[(Gt.vT (z:=Gt.qB o.cap o.refs r) rfl he).2.1]
    exact hr
theorem YV(h:One o=true)(r:Rf){c:aF.C}(hk:4≤c.k∧c.k≤17)(h4:¬c.k=4)(h5:¬c.k=5)(hf:fits c.k o.kind=true):One (act o r c).o=true:=by
 unfold act
 rcases qz hk h4 h5 with k|k|k|k|k|k|k|k|k|k|k|k<;>rw[k] at hf<;>simp only[k]<;>unfold fits at hf<;>simp at hf ⊢
 ·exact h
 ·exact EK h hf (fun g=>aK.Gz g _ _)
 ·exact EK h hf (fun g=>aK.Vu g _)
 ·exact EK h hf (fun g=>aK.RV g _ _ _)
 ·exact GK h hf (fun g=>dK.Tp g _)
 ·exact GK h hf (fun g=>dK.Tw g)
 ·exact AA h hf (fun g=>aS.RP g r)
 ·exact AA h hf (fun g=>aS.UL g r)
 ·exact RH h hf r
 ·exact aco h hf (fun g=>Mt.Wj g _)
 ·exact h
 ·exact h
theorem adb(h:One o=true)(r:Rf):One (dr o r)=true:=by
 unfold dr
 split
 next hk=>exact AA h hk (fun g=>aS.Vo g r)
 next=>
  split
  next hk=>
   refine AB (d:=o.round) h hk (fun g=>?_) id;rw[Gt.Fe g];exact Gt.SI g r
  next=>exact h
theorem Nq(o:Ob)(r:Rf):(dr o r).name=o.name:=by
 unfold dr
 split
 ·rfl
 ·split<;>rfl
end
theorem Qf{c:aF.C}(he:aF.bG c=0)(h4:c.k=4):One (fresh c)=true:=by
 have hn:named c.name∧aF.nums c:=by
  unfold aF.bG at he
  split at he
  ·cases he
  next g=>
   split at he
   ·cases he
   next g2=>
    split at he
    next g3=>exact absurd he g3
    next=>
     split at he
     next g3=>exact absurd he g3
     next=>
      split at he
      ·cases he
      next=>
       split at he
       ·cases he
       next=>
        split at he
        ·cases he
        next g4=>
         refine⟨⟨fun hs=>g (.inr (.inr (.inr ⟨by rw[h4];rfl,hs⟩))),by omega⟩,Decidable.byContradiction g4⟩
 obtain⟨h1,h2⟩:=hn;unfold aF.nums at h2;rw[if_neg (by omega),if_neg (by omega)] at h2;have hz:f5 (fresh c)=false:=by unfold f5 fresh;simp
 by_cases n2:c.n=2
 ·rw[if_pos n2] at h2
  refine lV h1 (mq (by show is c.n=true;rw[n2];rfl) (.inr (by show h0 c.n=true;rw[n2];rfl)) (.inl rfl) (.inl rfl) (.inl rfl) (.inl rfl) (.inl hz)) ?_;rw[Et (o:=fresh c) n2];exact decide_eq_true (dK.jg h2.1 h2.2)
 rw[if_neg n2] at h2;by_cases n4:c.n=4
 ·rw[if_pos n4] at h2
  refine lV h1 (mq (by show is c.n=true;rw[n4];rfl) (.inr (by show h0 c.n=true;rw[n4];rfl)) (.inl rfl) (.inl rfl) (.inl rfl) (.inl rfl) (.inl hz)) ?_;rw[vX (o:=fresh c) n4,Bool.and_eq_true];exact⟨decide_eq_true (Gt.Gm h2.1 h2.2),rfl⟩
 rw[if_neg n4] at h2;have hcap:f0 (fresh c)=false:=by show(!decide (c.m=0))=false;rw[h2.2.2];rfl
 have hk:c.n=1∨c.n=3∨c.n=5:=by omega
 refine lV h1 (mq (by show decide (1≤c.n∧c.n≤5)=true;exact decide_eq_true (by omega)) (.inl hcap) (.inl rfl) (.inl rfl) (.inl rfl) (.inl rfl) (.inl hz)) ?_
 rcases hk with hk|hk|hk
 ·rw[Eu (o:=fresh c) hk];exact decide_eq_true aK.jg
 ·rw[zw (o:=fresh c) hk];exact decide_eq_true aS.jg
 ·rw[Es (o:=fresh c) hk];exact decide_eq_true Mt.Mv
theorem Qn{l:List Ob}(h:Right l)(r:Rf)(c:aF.C):Right (iC l r c).l:=by
 by_cases hc:bG l r c=0
 case neg=>rw[uw hc];exact h
 obtain⟨⟨_,_,hk⟩,he,hnew,hown⟩:=Bz hc;by_cases h4:c.k=4
 ·rw[wT hc h4]
  exact CY h rfl (Qf he h4) (.inr (hnew h4).2)
 by_cases h5:c.k=5
 ·rw[wU hc h5]
  exact pU h _
 obtain⟨o,ho,hf,_⟩:=hown h4;rw[wV hc h4 h5 ho];obtain⟨hm,hn⟩:=Bh ho;exact CY h ((Wn o r c).trans hn) (YV (h.ok o hm) r hk h4 h5 hf) (.inl (by rw[ho];rfl))
theorem vM{l:List Ob}(h:Right l)(r:Rf):Right (aI l r):=by
 unfold aI;rw[if_pos h];refine⟨by rw[List.length_map];exact h.len,fun x hx=>?_,?_⟩
 ·obtain⟨y,hy,rfl⟩:=List.mem_map.1 hx
  exact adb (h.ok y hy) r
 ·unfold Up
  rw[List.pairwise_map];exact h.up.imp fun {a b} hab=>by rw[Nq,Nq];exact hab
end av
end
section
namespace aH
theorem set_set{t:T}{c:Int}(h:0≤c∧c<5)(a b:S):(t.set c a).set c b=t.set c b:=by
 rcases gN h with rfl|rfl|rfl|rfl|rfl<;>rfl
theorem UJ{s:S}{l d:Bool}(hl:s.live=l)(hd:s.dn=d):∃ep rq p,s=⟨l,ep,rq,d,p⟩:=⟨s.ep,s.rq,s.p,by rw[← hl,← hd]⟩
theorem nN{t:T}{r:Rf}{k:Int}(h:look t r=k)(hk:¬k=5):0≤r.c∧r.c<5:=kV (jS h (hk:=hk)).1
theorem NA{t:T}{r:Rf}(h1:decide (look t r=1)=true)(h2:decide (r.r=0)=false):iq t r=t.set r.c { t.get r.c with rq:=r.r,dn:=false,p:=av.rz }:=if_pos ⟨of_decide_eq_true h1,of_decide_eq_false h2⟩
theorem ND{t:T}{r:Rf}(h1:decide (look t r=1)=false):iq t r=t:=if_neg fun h=>of_decide_eq_false h1 h.1
theorem NC{t:T}{r:Rf}(h2:decide (r.r=0)=true):iq t r=t:=if_neg fun h=>h.2 (of_decide_eq_true h2)
theorem Nj{t:T}{r:Rf}{x:av.Rp}(h1:decide (look t r=3)=true)(h2:av.rep x=true):fP t r x=t.set r.c { t.get r.c with dn:=true,p:=x }:=if_pos ⟨of_decide_eq_true h1,h2⟩
theorem Nl{t:T}{r:Rf}{x:av.Rp}(h1:decide (look t r=3)=false):fP t r x=t:=if_neg fun h=>of_decide_eq_false h1 h.1
theorem Nk{t:T}{r:Rf}{x:av.Rp}(h2:av.rep x=false):fP t r x=t:=if_neg fun h=>by rw[h2] at h;cases h.2
theorem TM{t:T}{r:Rf}(h1:decide (look t r=1)=false):jB t r=t∧oH t r=av.err 1:=⟨if_neg fun h=>of_decide_eq_false h1 h.1,if_neg fun h=>of_decide_eq_false h1 h.1⟩
theorem TL{t:T}{r:Rf}(h2:decide (r.r=0)=false):jB t r=t∧oH t r=av.err 1:=⟨if_neg fun h=>of_decide_eq_false h2 h.2,if_neg fun h=>of_decide_eq_false h2 h.2⟩
theorem TK{t:T}{r:Rf}(h1:decide (look t r=1)=true)(h2:decide (r.r=0)=true)(h3:decide (live t r.c<4)=true):jB t r=t.set r.c ⟨true,r.e,0,true,av.rz⟩∧oH t r=av.rz:=by
 have e:nJ t r=⟨true,r.e,0,true,av.rz⟩:=if_pos (of_decide_eq_true h3);exact ZX
theorem Ms{t:T}{r:Rf}(h1:decide (look t r=1)=true)(h2:decide (r.r=0)=true)(h3:decide (live t r.c<4)=false):jB t r=t.set r.c ⟨false,r.e,0,true,av.err 6⟩∧oH t r=av.err 6:=by
 have e:nJ t r=⟨false,r.e,0,true,av.err 6⟩:=if_neg (of_decide_eq_false h3);exact ZX
theorem acC{t:T}{c:Int}(h:0≤c∧c<5):live (t.set c z) (-1)=live t c:=by
 rw[GX h]
 show live t c+0=_
 omega
theorem aaL{t:T}{c:Int}(h:decide (c<0)=true):fJ t c=t:=if_neg fun g=>by have:=of_decide_eq_true h;omega
theorem aaN{t:T}{c:Int}(h:decide (5≤c)=true):fJ t c=t:=if_neg fun g=>by have:=of_decide_eq_true h;omega
theorem aaK{t:T}{c:Int}(h:decide (Right t)=false):fJ t c=t:=if_neg fun g=>of_decide_eq_false h g.2.2.1
theorem Nw{t:T}{c:Int}(h:(t.get c).live=false):fJ t c=t:=if_neg fun g=>by rw[h] at g;cases g.2.2.2
theorem aaM{c:Int}(h1:decide (c<0)=false)(h2:decide (5≤c)=false):0≤c∧c<5:=by
 have:=of_decide_eq_false h1;have:=of_decide_eq_false h2;omega
theorem Nv{t:T}{c:Int}(h:0≤c∧c<5)(h2:decide (Right t)=true)(h3:(t.get c).live=true)(h4:(t.get c).dn=true):fJ t c=t.set c { t.get c with live:=false }:=
 (if_pos ⟨h.1,h.2,of_decide_eq_true h2,h3⟩).trans (by rw[jk,if_pos h4])
theorem Nu{t:T}{c:Int}(h:0≤c∧c<5)(h2:decide (Right t)=true)(h3:(t.get c).live=true)(h4:(t.get c).dn=false):fJ t c=t.set c { t.get c with live:=false,dn:=true,p:=av.err 14 }:=
 (if_pos ⟨h.1,h.2,of_decide_eq_true h2,h3⟩).trans (by rw[jk,if_neg (by rw[h4];decide)])
end aH
end
section
namespace aH
theorem Xw{t:T}{c:Int}(h:¬(0≤c∧c<5))(s:S):t.set c s=t:=by
 unfold T.set;rw[if_neg (by omega),if_neg (by omega),if_neg (by omega),if_neg (by omega),if_neg (by omega)]
theorem zK{t:T}{c:Int}{s:S}(h:Fit t)(hs:s.p.v.f<18446744073709551616):Fit (t.set c s):=fun d hd=>by
 by_cases hc:0≤c∧c<5
 ·by_cases e:d=c
  ·rw[e,bU hc];exact hs
  ·rw[kP hc hd e];exact h d hd
 ·rw[Xw hc];exact h d hd
theorem Yw{t:T}(h:Fit t)(c:Int):(t.get c).p.v.f<18446744073709551616:=by
 by_cases hc:0≤c∧c<5
 ·exact h c hc
 ·unfold T.get
  rw[if_neg (by omega),if_neg (by omega),if_neg (by omega),if_neg (by omega),if_neg (by omega)]
  decide
theorem UW{t:T}(h:Fit t)(r:Rf):Fit (jB t r):=by
 unfold jB
 split
 ·refine zK h ?_
  unfold nJ
  split
  ·show 0<_;decide
  ·show 0<_;decide
 ·exact h
theorem lN{t:T}(h:Fit t)(r:Rf):Fit (iq t r):=by
 unfold iq
 split
 ·exact zK h (by show 0<_;decide)
 ·exact h
theorem mM{t:T}(h:Fit t)(r:Rf){x:av.Rp}(hx:x.v.f<18446744073709551616):Fit (fP t r x):=by
 unfold fP
 split
 ·exact zK h hx
 ·exact h
theorem qg{t:T}(h:Fit t)(c:Int):Fit (fJ t c):=by
 unfold fJ
 split
 ·refine zK h ?_
  unfold jk
  split
  ·exact Yw h c
  ·show 0<_;decide
 ·exact h
def t0:T:=⟨z,z,z,z,z⟩
def t1:T:=⟨⟨true,1,0,true,av.rz⟩,z,z,z,z⟩
def t2:T:=⟨⟨true,1,1,false,av.rz⟩,z,z,z,z⟩
theorem aaI:Fit t0:=fun c hc=>by rcases gN hc with rfl|rfl|rfl|rfl|rfl<;>decide
end aH
end
section
namespace Ap
open aH
def Hd(t:T)(r:Rf):Prop:=(t.get r.c).live=true∧(t.get r.c).ep=r.e∧r.r≤(t.get r.c).rq∧1≤r.r
instance (t:T) (r:Rf):Decidable (Hd t r):=by unfold Hd;infer_instance
def opn(s:S):Bool:=decide (0<s.ep)&&!s.dn
def cnt(l:List Rf)(c:Int):Nat:=l.countP fun x=>decide (x.c=c)
theorem jH(l m:List Rf)(c:Int):cnt (l++m) c=cnt l c+cnt m c:=List.countP_append ..
theorem wW(r:Rf)(l:List Rf)(c:Int):cnt (r::l) c=cnt l c+if r.c=c then 1 else 0:=by
 unfold cnt;rw[List.countP_cons];simp
theorem Vv{l m:List Rf}(h:l.Perm m)(c:Int):cnt l c=cnt m c:=h.countP_eq _
theorem IJ{l:List Rf}{c:Int}(h:cnt l c=0){r:Rf}(hr:r∈l):¬r.c=c:=fun e=>by
 have:=List.countP_eq_zero.1 h r hr;simp[e] at this
theorem Vw{l:List Rf}{c:Int}(h:∀r∈l,¬r.c=c):cnt l c=0:=List.countP_eq_zero.2 fun r hr=>by simp[h r hr]
theorem YH{l:List Rf}{c q:Int}(h:¬c=q):cnt (l.filter fun x=>!decide (x.c=q)) c=cnt l c:=by
 unfold cnt;rw[List.countP_filter];refine List.countP_congr fun x _=>?_
 simp only[Bool.and_eq_true,decide_eq_true_eq,Bool.not_eq_true',decide_eq_false_iff_not]
 constructor
 ·exact fun g=>g.1
 ·intro g
  exact⟨g,fun e=>h (by omega)⟩
theorem Fj{l:List Rf}{q:Int}:cnt (l.filter fun x=>!decide (x.c=q)) q=0:=Vw fun r hr=>by
 have:=(List.mem_filter.1 hr).2
 simpa using this
theorem qO{t:T}{c:Int}{s:S}{r:Rf}(hc:0≤c∧c<5)(h1:Right t)(h2:Right (t.set c s))(hn:¬r.c=c):aH.look (t.set c s) r=aH.look t r:=by
 by_cases hk:aS.ok r
 ·unfold aH.look
  rw[if_pos ⟨hk,h2⟩,if_pos ⟨hk,h1⟩,kP hc (kV hk) hn]
 ·rw[GR fun g=>hk g.1,GR fun g=>hk g.1]
theorem wK{t:T}{c:Int}{s:S}{r:Rf}(hc:0≤c∧c<5)(hr:0≤r.c∧r.c<5)(hn:¬r.c=c):Hd (t.set c s) r↔Hd t r:=by
 unfold Hd;rw[kP hc hr hn]
theorem pV{t:T}{r:Rf}(h:aH.look t r=3):(0≤r.c∧r.c<5)∧Hd t r∧(t.get r.c).dn=false∧r.r=(t.get r.c).rq∧opn (t.get r.c)=true:=by
 obtain⟨hk,hR,hl⟩:=jS h;obtain⟨h1,h2,h3⟩:=Ga hl;have he:1≤r.e:=hk.2.2.1
 rcases(one_pos (kZ hR (kV hk)) (by omega)).1 with g|⟨_,g2,g⟩
 ·rw[h3] at g;cases g
 ·refine⟨kV hk,⟨g,h1.symm,by omega,by omega⟩,h3,h2,?_⟩
  unfold opn;rw[h3,decide_eq_true (by omega)]
  rfl
theorem TV{t:T}{r:Rf}(hk:aS.ok r)(hR:Right t)(h1:r.e=(t.get r.c).ep)(h2:r.r=(t.get r.c).rq)(h3:(t.get r.c).dn=false):aH.look t r=3:=by
 unfold aH.look;rw[if_pos ⟨hk,hR⟩];unfold oI;rw[if_neg (by omega),if_neg (by omega),if_pos h2,h3]
 rfl
structure J(t:T)(W P H:List Rf):Prop where
 ok:Right t
 w:∀r∈W++P,aH.look t r=3
 p:∀c:Int,0≤c∧c<5→cnt (W++P) c=if opn (t.get c)=true then 1 else 0
 h:∀r∈H,(0≤r.c∧r.c<5)∧Hd t r∧(r.r=(t.get r.c).rq→(t.get r.c).dn=false→r∈P)
section
variable {t:T}{W P H W' P' H':List Rf}{r:Rf}{c:Int}
theorem J.range(j:J t W P H)(hr:r∈W++P):0≤r.c∧r.c<5:=(pV (j.w r hr)).1
theorem J.none(j:J t W P H)(hc:0≤c∧c<5)(h:opn (t.get c)=false)(hr:r∈W++P):¬r.c=c:=
 IJ (by rw[j.p c hc,h];rfl) hr
theorem J.perm(j:J t W P H)(hp:(W'++P').Perm (W++P))(hh:∀r∈H',(r∈H∧(r∈P→r∈P'))∨r∈P'):J t W' P' H':=by
 refine⟨j.ok,fun r hr=>j.w r (hp.mem_iff.1 hr),fun c hc=>by rw[Vv hp];exact j.p c hc,fun r hr=>?_⟩
 rcases hh r hr with ⟨h1,h2⟩|h1
 ·obtain⟨a,b,d⟩:=j.h r h1
  exact⟨a,b,fun e1 e2=>h2 (d e1 e2)⟩
 ·obtain⟨a,b,_⟩:=pV (j.w r (hp.mem_iff.1 (List.mem_append.2 (.inr h1))))
  exact⟨a,b,fun _ _=>h1⟩
theorem kr(hl:aH.look t r=1)(h0:¬r.r=0):aS.ok r∧Right t∧r.e=(t.get r.c).ep∧r.r=(t.get r.c).rq+1∧(t.get r.c).live=true∧(t.get r.c).dn=true:=by
 obtain⟨hk,hR,hs⟩:=jS hl
 rcases wN hs with ⟨g,_⟩|⟨g1,g2,g3,g4⟩
 ·exact absurd g h0
 ·exact⟨hk,hR,g1,g2,g3,g4⟩
theorem J.Qg(j:J t W P H)(hl:aH.look t r=1)(h0:¬r.r=0):r ∉ H:=fun h=>by
 obtain⟨_,_,_,g,_,_⟩:=kr hl h0;have:=(j.h r h).2.1.2.2.1;omega
theorem J.begin(j:J t W P H)(hl:aH.look t r=1)(h0:¬r.r=0):J (iq t r) W (P++[r]) H:=by
 obtain⟨hk,hR,g1,g2,g3,g4⟩:=kr hl h0;have hc:=kV hk;have hR2:=DU j.ok r;have e:iq t r=t.set r.c { t.get r.c with rq:=r.r,dn:=false,p:=av.rz }:=if_pos ⟨hl,h0⟩;have ho:opn (t.get r.c)=false:=by unfold opn;rw[g4];simp
 have he:1≤r.e:=hk.2.2.1;rw[e] at hR2 ⊢;refine⟨hR2,fun q hq=>?_,fun c hc2=>?_,fun q hq=>?_⟩
 ·rw[← List.append_assoc] at hq
  rcases List.mem_append.1 hq with hq|hq
  ·rw[qO hc j.ok hR2 (j.none hc ho hq)]
   exact j.w q hq
  ·rw[List.mem_singleton.1 hq]
   refine TV hk hR2 ?_ ?_ ?_<;>rw[bU hc];exact g1
 ·rw[← List.append_assoc,jH,j.p c hc2]
  by_cases e2:c=r.c
  ·subst e2
   rw[bU hc,ho];unfold cnt opn;rw[decide_eq_true (by show 0<(t.get r.c).ep;omega)];simp
  ·rw[kP hc hc2 e2]
   have:cnt [r] c=0:=Vw fun x hx=>by rw[List.mem_singleton.1 hx];exact fun g=>e2 g.symm
   omega
 ·obtain⟨a,b,d⟩:=j.h q hq
  by_cases e2:q.c=r.c
  ·obtain⟨b1,b2,b3,b4⟩:=b
   rw[e2] at b1 b2 b3;refine⟨a,⟨?_,?_,?_,b4⟩,fun f1 f2=>?_⟩
   ·rw[e2,bU hc];exact b1
   ·rw[e2,bU hc];exact b2
   ·rw[e2,bU hc];show q.r≤r.r;omega
   ·rw[e2,bU hc] at f1
    exfalso
    have:q.r=r.r:=f1;omega
  ·refine⟨a,(wK hc a e2).2 b,fun f1 f2=>?_⟩
   rw[kP hc a e2] at f1 f2;exact List.mem_append.2 (.inl (d f1 f2))
theorem J.end_(j:J t W (r::P) H){x:av.Rp}(hx:av.rep x=true):J (fP t r x) W P H:=by
 have hl:aH.look t r=3:=j.w r (List.mem_append.2 (.inr (List.mem_cons_self ..)));obtain⟨hc,hd,g3,g4,ho⟩:=pV hl;have hR2:=Qm j.ok r x;have e:fP t r x=t.set r.c { t.get r.c with dn:=true,p:=x }:=if_pos ⟨hl,hx⟩;rw[e] at hR2 ⊢
 have h1:cnt (W++P) r.c=0:=by
  have:=j.p r.c hc;rw[ho,jH,wW,if_pos rfl,if_pos rfl] at this;rw[jH];omega
 refine⟨hR2,fun q hq=>?_,fun c hc2=>?_,fun q hq=>?_⟩
 ·rw[qO hc j.ok hR2 (IJ h1 hq)]
  refine j.w q ?_
  rcases List.mem_append.1 hq with hq|hq
  ·exact List.mem_append.2 (.inl hq)
  ·exact List.mem_append.2 (.inr (List.mem_cons_of_mem _ hq))
 ·by_cases e2:c=r.c
  ·subst e2
   rw[h1,bU hc];unfold opn;simp
  ·rw[kP hc hc2 e2,← j.p c hc2,jH,jH,wW,if_neg (fun g=>e2 g.symm)]
   rfl
 ·obtain⟨a,b,d⟩:=j.h q hq
  by_cases e2:q.c=r.c
  ·obtain⟨b1,b2,b3,b4⟩:=b
   rw[e2] at b1 b2 b3;refine⟨a,⟨?_,?_,?_,b4⟩,fun f1 f2=>?_⟩
   ·rw[e2,bU hc];exact b1
   ·rw[e2,bU hc];exact b2
   ·rw[e2,bU hc];exact b3
   ·rw[e2,bU hc] at f2
    cases f2
  ·refine⟨a,(wK hc a e2).2 b,fun f1 f2=>?_⟩
   rw[kP hc a e2] at f1 f2
   rcases List.mem_cons.1 (d f1 f2) with g|g
   ·exact absurd (congrArg Rf.c g) e2
   ·exact g
def ends(t:T):List (Rf×av.Rp)→T
 | []=>t
 | y::m=>ends (fP t y.1 y.2) m
theorem J.ends:∀{Y:List (Rf×av.Rp)} {t:T},J t W (Y.map (·.1)++P) H→(∀y∈Y,av.rep y.2=true)→J (Ap.ends t Y) W P H
 | [],t,j,_=>j
 | y::m,t,j,hy=>J.ends (Y:=m) (t:=fP t y.1 y.2) (J.end_ j (hy y (List.mem_cons_self ..))) fun z hz=>hy z (List.mem_cons_of_mem _ hz)
theorem J.close(j:J t W P H)(hc:0≤c∧c<5)(hl:(t.get c).live=true):
  J (fJ t c) (W.filter fun x=>!decide (x.c=c)) (P.filter fun x=>!decide (x.c=c)) (H.filter fun x=>!decide (x.c=c)):=by
 have hR2:=IQ j.ok c;have e:fJ t c=t.set c (jk (t.get c)):=if_pos ⟨hc.1,hc.2,j.ok,hl⟩
 have hd:(jk (t.get c)).dn=true:=by
  unfold jk
  split
  ·assumption
  ·rfl
 rw[e] at hR2 ⊢;refine⟨hR2,fun q hq=>?_,fun c2 hc2=>?_,fun q hq=>?_⟩
 ·rw[← List.filter_append] at hq
  obtain⟨h1,h2⟩:=List.mem_filter.1 hq;rw[qO hc j.ok hR2 (by simpa using h2)];exact j.w q h1
 ·rw[← List.filter_append]
  by_cases e2:c2=c
  ·subst e2
   rw[Fj,bU hc];unfold opn;rw[hd];simp
  ·rw[YH e2,kP hc hc2 e2]
   exact j.p c2 hc2
 ·obtain⟨h1,h2⟩:=List.mem_filter.1 hq
  obtain⟨a,b,d⟩:=j.h q h1;have e2:¬q.c=c:=by simpa using h2
  refine⟨a,(wK hc a e2).2 b,fun f1 f2=>?_⟩;rw[kP hc a e2] at f1 f2;exact List.mem_filter.2 ⟨d f1 f2,h2⟩
theorem J.dead(j:J t W P H)(hl:(t.get c).live=false):(∀q∈W++P,¬q.c=c)∧∀q∈H,¬q.c=c:=by
 refine⟨fun q hq e=>?_,fun q hq e=>?_⟩
 ·have:=(pV (j.w q hq)).2.1.1
  rw[e,hl] at this;cases this
 ·have:=(j.h q hq).2.1.1
  rw[e,hl] at this;cases this
theorem J.open_(j:J t W P H)(hl:aH.look t r=1)(h0:r.r=0)(hd:(t.get r.c).live=false):J (jB t r) W P H:=by
 obtain⟨hk,_,_⟩:=jS hl;have hc:=kV hk;have hR2:=KJ j.ok r;have e:jB t r=t.set r.c (nJ t r):=if_pos ⟨hl,h0⟩;have hdn:(nJ t r).dn=true:=by unfold nJ;split<;>rfl
 obtain⟨n1,n2⟩:=j.dead hd
 have ho:opn (t.get r.c)=false:=by
  unfold opn;by_cases he:(t.get r.c).ep=0
  ·rw[he];rfl
  ·rcases(one_pos (kZ j.ok hc) he).1 with g|⟨_,_,g⟩
   ·rw[g];simp
   ·rw[hd] at g;cases g
 rw[e] at hR2 ⊢;refine⟨hR2,fun q hq=>?_,fun c2 hc2=>?_,fun q hq=>?_⟩
 ·rw[qO hc j.ok hR2 (n1 q hq)]
  exact j.w q hq
 ·rw[j.p c2 hc2]
  by_cases e2:c2=r.c
  ·subst e2
   rw[bU hc,ho];unfold opn;rw[hdn];simp
  ·rw[kP hc hc2 e2]
 ·obtain⟨a,b,d⟩:=j.h q hq
  have e2:=n2 q hq;refine⟨a,(wK hc a e2).2 b,fun f1 f2=>?_⟩;rw[kP hc a e2] at f1 f2;exact d f1 f2
theorem J.mine(j:J t W P H)(hr:r∈W++P∨r∈H):r.e=(t.get r.c).ep:=by
 rcases hr with hr|hr
 ·exact(pV (j.w r hr)).2.1.2.1.symm
 ·exact(j.h r hr).2.1.2.1.symm
end
end Ap
end
section
namespace Ap
open av
def kE(o:Ob):List Rf:=if o.kind=3 then o.refs.drop 1 else o.refs
def hld(o:Ob):List Rf:=if o.kind=3 then o.refs.take 1 else []
def W(l:List Ob):List Rf:=l.flatMap kE
def H(l:List Ob):List Rf:=l.flatMap hld
theorem vN{o:Ob}(h:One o=true)(h3:¬o.kind=3)(h4:¬o.kind=4):o.refs=[]:=by
 obtain⟨_,b,_⟩:=jK h;obtain⟨_,_,_,_,b4,_,_⟩:=qx b
 rcases b4 with g|g
 ·unfold f3 at g
  have:=of_decide_eq_false g;exact List.length_eq_zero_iff.1 (by omega)
 ·unfold av.h3 at g
  have:=of_decide_eq_true g;omega
theorem ig{o:Ob}(h:One o=true):aS.Right o.refs:=by
 obtain⟨_,_,c⟩:=jK h;by_cases h3:o.kind=3
 ·rw[zw h3] at c;exact of_decide_eq_true c
 by_cases h4:o.kind=4
 ·rw[vX h4,Bool.and_eq_true] at c;exact(of_decide_eq_true c.1).2.2.2
 rw[vN h h3 h4];exact aS.jg
theorem Bf{o:Ob}(h:One o=true)(h4:o.kind=4):Gt.Right o.cap o.refs:=by
 obtain⟨_,_,c⟩:=jK h;rw[vX h4,Bool.and_eq_true] at c;exact of_decide_eq_true c.1
theorem ED{l:List Rf}(h:aS.Right l){r:Rf}(hr:r∈l):aS.ok r:=by
 obtain⟨i,hi,e⟩:=List.getElem_of_mem hr;exact(h i hi r (by rw[List.getElem?_eq_getElem hi,e])).1
theorem ahS{l:List Ob}(h:av.Right l){r:Rf}(hr:r∈H l):aS.ok r:=by
 obtain⟨o,ho,hr⟩:=List.mem_flatMap.1 hr;refine ED (ig (h.ok o ho)) ?_;unfold hld at hr
 split at hr
 ·exact List.mem_of_mem_take hr
 ·cases hr
def nm(r:Rf)(x:Rf):Bool:=!decide (aS.mine x r)
theorem Vp{o:Ob}(h:One o=true)(r:Rf):(kE (dr o r)++(uF o r).map (·.r)).Perm ((kE o).filter (nm r))∧∀x∈hld (dr o r),(x∈hld o∧nm r x=true)∨x∈(uF o r).map (·.r):=by
 by_cases h3:o.kind=3
 ·have hR:=ig h
  have e1:dr o r = { o with refs:=aS.pF o.refs r }:=if_pos h3;have e2:uF o r=held (aS.zO o.refs r) (aS.uP o.refs r):=if_pos h3;have e3:kE (dr o r)=(aS.pF o.refs r).drop 1:=by rw[e1];exact if_pos h3
  have e4:hld (dr o r)=(aS.pF o.refs r).take 1:=by rw[e1];exact if_pos h3
  have e5:kE o=o.refs.drop 1:=if_pos h3;have e6:hld o=o.refs.take 1:=if_pos h3;rw[e2,e3,e4,e5,e6];generalize o.refs=l at *
  clear e1 e2 e3 e4 e5 e6 h h3;have eL:aS.pF l r=l.filter (nm r):=if_pos hR;have ew:aS.wo l r=l.filter (nm r):=rfl
  match l,hR with
  | [],hR=>
   have:=aS.zN (r:=r) hR rfl;rw[this.2.2,eL];exact Rl
  | a::m,hR=>
   rw[eL];by_cases ha:aS.mine a r
   ·have ef:(a::m).filter (nm r)=m.filter (nm r):=List.filter_cons_of_neg (by unfold nm;rw[decide_eq_true ha];decide)
    rw[ef]
    cases hm:m.filter (nm r) with
    | nil=>
     have:=aS.zN (r:=r) hR (by rw[ew,ef,hm];rfl);rw[this.2.2,List.drop_succ_cons,List.drop_zero,hm];exact Rl
    | cons b q=>
     have hb:nm r b=true:=(List.mem_filter.1 (by rw[hm];exact List.mem_cons_self ..:b∈m.filter (nm r))).2
     have hne:¬b=a:=fun e=>by
      rw[e] at hb;unfold nm at hb;rw[decide_eq_true ha] at hb;cases hb
     obtain⟨_,g2,g3⟩:=aS.Le (r:=r) (x:=b) (y:=a) hR (by rw[ew,ef,hm];rfl) rfl hne;rw[g2,g3,List.drop_succ_cons,List.drop_zero,List.drop_succ_cons,List.drop_zero,hm];refine⟨?_,fun x hx=>.inr ?_⟩
     ·exact(List.perm_append_comm (l₁:=q) (l₂:=[b]))
     ·simpa [held] using hx
   ·have hna:nm r a=true:=by unfold nm;rw[decide_eq_false ha];rfl
    have ef:(a::m).filter (nm r)=a::m.filter (nm r):=List.filter_cons_of_pos hna;rw[ef];have:=aS.Fg (r:=r) (x:=a) (y:=a) hR (by rw[ew,ef];rfl) rfl rfl;rw[this.2.2,List.drop_succ_cons,List.drop_zero,List.drop_succ_cons,List.drop_zero];refine⟨?_,fun x hx=>.inl ?_⟩
    ·show(m.filter (nm r)++[]).Perm _
     rw[List.append_nil]
    ·have:x=a:=by simpa using hx
     rw[this];exact⟨by simp,hna⟩
 by_cases h4:o.kind=4
 ·have e1:dr o r = { o with refs:=Gt.pF o.cap o.refs r }:=by unfold dr;rw[if_neg h3,if_pos h4]
  have e2:uF o r=[]:=if_neg h3;have e3:kE (dr o r)=Gt.pF o.cap o.refs r:=by rw[e1];exact if_neg h3
  have e4:hld (dr o r)=[]:=by rw[e1];exact if_neg h3
  have e5:kE o=o.refs:=if_neg h3;rw[e2,e3,e4,e5,Gt.Fe (Bf h h4)];refine⟨?_,fun x hx=>by cases hx⟩
  show(aS.wo o.refs r++[]).Perm _
  rw[List.append_nil];exact List.Perm.refl _
 ·have e1:dr o r=o:=by unfold dr;rw[if_neg h3,if_neg h4]
  have e2:uF o r=[]:=if_neg h3;have e5:kE o=[]:=by unfold kE;rw[if_neg h3];exact vN h h3 h4
  have e4:hld o=[]:=if_neg h3;rw[e1,e2,e5,e4];exact Rl
theorem DF:∀{l:List Ob},(∀o∈l,One o=true)→∀r:Rf,(W (l.map fun o=>dr o r)++(l.flatMap fun o=>uF o r).map (·.r)).Perm ((W l).filter (nm r))∧∀x∈H (l.map fun o=>dr o r),(x∈H l∧nm r x=true)∨x∈(l.flatMap fun o=>uF o r).map (·.r)
 | [],_,r=>⟨List.Perm.refl _,fun x hx=>by cases hx⟩
 | o::l,h,r=>by
  obtain⟨a1,a2⟩:=Vp (h o (List.mem_cons_self ..)) r;obtain⟨b1,b2⟩:=DF (l:=l) (fun x hx=>h x (List.mem_cons_of_mem _ hx)) r
  constructor
  ·show((kE (dr o r)++W (l.map fun o=>dr o r))++(uF o r++l.flatMap fun o=>uF o r).map (·.r)).Perm ((kE o++W l).filter (nm r))
   rw[List.map_append,List.filter_append];refine List.Perm.trans ?_ (a1.append b1);rw[List.append_assoc,List.append_assoc];refine List.Perm.append_left _ ?_;rw[← List.append_assoc,← List.append_assoc];exact List.Perm.append_right _ List.perm_append_comm
  ·intro x hx
   show(x∈hld o++H l∧_)∨x∈(uF o r++l.flatMap fun o=>uF o r).map (·.r)
   rw[List.map_append,List.mem_append,List.mem_append]
   rcases List.mem_append.1 (show x∈hld (dr o r)++H (l.map fun o=>dr o r) from hx) with hx|hx
   ·rcases a2 x hx with ⟨g1,g2⟩|g
    ·exact .inl ⟨.inl g1,g2⟩
    ·exact .inr (.inl g)
   ·rcases b2 x hx with ⟨g1,g2⟩|g
    ·exact .inl ⟨.inr g1,g2⟩
    ·exact .inr (.inr g)
theorem Lc{l:List Ob}(h:av.Right l)(r:Rf):(W (aI l r)++(jM l r).map (·.r)).Perm ((W l).filter (nm r))∧∀x∈H (aI l r),(x∈H l∧nm r x=true)∨x∈(jM l r).map (·.r):=by
 have e1:aI l r=l.map fun o=>dr o r:=if_pos h
 have e2:jM l r=l.flatMap fun o=>uF o r:=if_pos h
 rw[e1,e2];exact DF h.ok r
theorem sJ{α:Type}(f:Ob→List α){l:List Ob}(h:Up l)(k:ByteArray)(o:Ob):((put l k o).flatMap f).Perm (f o++(wo l k).flatMap f):=by
 unfold put;rw[← (fu h k).1,List.flatMap_append,List.flatMap_append,List.flatMap_append,List.append_assoc];have:[o].flatMap f=f o:=by simp
 rw[this,← List.append_assoc,← List.append_assoc];exact List.Perm.append_right _ List.perm_append_comm
theorem wB{α:Type}(f:Ob→List α){l:List Ob}(h:Up l){k:ByteArray}{o:Ob}(ho:jc l k=some o):(l.flatMap f).Perm (f o++(wo l k).flatMap f):=by
 have:=sJ f h k o;rw[Tj h ho] at this;exact this
theorem MZ:∀{l:List Ob} {k:ByteArray},jc l k=none→∀x∈l,¬x.name=k
 | [],_,_,_,hx,_=>by cases hx
 | y::m,k,ho,x,hx,e=>by
  unfold jc at ho
  split at ho
  ·cases ho
  next g=>
   rcases List.mem_cons.1 hx with h|hx
   ·exact g (h▸e)
   ·exact MZ ho x hx e
theorem PE{l:List Ob}{k:ByteArray}(ho:jc l k=none):wo l k=l:=rX (MZ ho)
def Moves(w h w' h':List Rf)(r:Rf)(later:Bool)(y:List Rf):Prop:=
 (later=false→(w'++y).Perm w∧∀x∈h',x∈h∨x∈y∨x=r)∧(later=true→y=[]∧w'.Perm (w++[r])∧∀x∈h',x∈h)
theorem dW{w:List Rf}{h:List Rf}{r:Rf}:Moves w h w h r false []:=⟨fun _=>⟨by rw[List.append_nil],fun x hx=>.inl hx⟩,fun e=>by cases e⟩
theorem JV{o:Ob}(h:One o=true)(h3:o.kind=3)(r:Rf):Moves (kE o) (hld o) (kE (take o r).o) (hld (take o r).o) r (take o r).later ((take o r).outs.map (·.r)):=by
 have hR:=ig h;have e1:kE (take o r).o=(aS.CF o.refs r).drop 1:=if_pos h3;have e2:hld (take o r).o=(aS.CF o.refs r).take 1:=if_pos h3;have e3:kE o=o.refs.drop 1:=if_pos h3;have e4:hld o=o.refs.take 1:=if_pos h3;have e5:(take o r).later=(decide (aS.yY o.refs r=0)&&!aS.JU o.refs r):=rfl;have e6:(take o r).outs.map (·.r)=[]:=rfl;rw[e1,e2,e3,e4,e5,e6];generalize o.refs=l at *
 clear e1 e2 e3 e4 e5 e6 h h3;by_cases hk:aS.ok r
 case neg=>
  obtain⟨g1,g2,g3⟩:=aS.Ag (l:=l) (r:=r) (fun g=>hk g.2);rw[g1,g2,g3];exact dW
 by_cases ha:aS.asked l r.c=true
 ·obtain⟨g1,g2,g3⟩:=aS.Er hR hk ha
  rw[g1,g2,g3];exact dW
 ·obtain⟨g1,g2,g3⟩:=aS.RQ hR hk (Bool.eq_false_iff.2 ha)
  rw[g1,g2,g3]
  cases l with
  | nil=>
   refine⟨fun _=>⟨List.Perm.refl _,fun x hx=>?_⟩,fun e=>by cases e⟩;exact .inr (.inr (by simpa using hx))
  | cons a m=>
   refine⟨fun e=>(by cases e),fun _=>⟨rfl,?_,fun x hx=>?_⟩⟩
   ·show(m++[r]).Perm (m++[r])
    exact List.Perm.refl _
   ·simpa using hx
theorem KX{o:Ob}(h:One o=true)(h3:o.kind=3)(r:Rf):Moves (kE o) (hld o) (kE (free o r).o) (hld (free o r).o) r (free o r).later ((free o r).outs.map (·.r)):=by
 have hR:=ig h;have e1:kE (free o r).o=(aS.Ci o.refs r).drop 1:=if_pos h3;have e2:hld (free o r).o=(aS.Ci o.refs r).take 1:=if_pos h3;have e3:kE o=o.refs.drop 1:=if_pos h3;have e4:hld o=o.refs.take 1:=if_pos h3;have e5:(free o r).later=false:=rfl;have e6:(free o r).outs=held (aS.EZ o.refs r) (aS.Dy o.refs r):=rfl;rw[e1,e2,e3,e4,e5,e6];generalize o.refs=l at *
 clear e1 e2 e3 e4 e5 e6 h h3
 cases l with
 | nil=>
  obtain⟨_,g2,g3,g4⟩:=aS.EY (r:=r) hR rfl;rw[g2,g4];exact dW
 | cons a m=>
  by_cases ha:aS.mine a r
  case neg=>
   obtain⟨_,g2,g3,g4⟩:=aS.Bg (r:=r) hR rfl ha;rw[g2,g4];exact dW
  cases m with
  | nil=>
   obtain⟨_,g2,g3,g4⟩:=aS.MX (r:=r) hR rfl ha rfl;rw[g2,g4];exact⟨fun _=>⟨List.Perm.refl _,fun x hx=>by cases hx⟩,fun e=>by cases e⟩
  | cons b q=>
   obtain⟨_,g2,g3,g4⟩:=aS.MW (r:=r) (x:=a) (y:=b) hR rfl ha rfl;rw[g2,g3,g4];refine⟨fun _=>⟨?_,fun x hx=>.inr (.inl ?_)⟩,fun e=>by cases e⟩
   ·show(q++[b]).Perm (b::q)
    exact(List.perm_append_comm (l₁:=q) (l₂:=[b]))
   ·simpa [held] using hx
theorem JK{o:Ob}(h:One o=true)(h4:o.kind=4)(r:Rf):Moves (kE o) (hld o) (kE (wait o r).o) (hld (wait o r).o) r (wait o r).later ((wait o r).outs.map (·.r)):=by
 have hR:=Bf h h4;have h3:¬o.kind=3:=by omega
 have ew:∀m d,kE { o with refs:=m,round:=d } = m:=fun m d=>if_neg h3
 have eh:∀m d,hld { o with refs:=m,round:=d } = []:=fun m d=>if_neg h3
 have e0:kE o=o.refs:=if_neg h3;have e1:hld o=[]:=if_neg h3
 have same:∀e:Int,¬e=0→Gt.qB o.cap o.refs r=e→Moves (kE o) (hld o) (kE (wait o r).o) (hld (wait o r).o) r (wait o r).later ((wait o r).outs.map (·.r)):=fun e he g=>by
  obtain⟨g1,g2,g3⟩:=Gt.vT g he
  have:wait o r=⟨{ o with refs:=o.refs },err e,false,[]⟩:=by
   unfold wait;rw[g3,g2,g1,decide_eq_false he]
   rfl
  rw[this];exact dW
 by_cases hk:aS.ok r
 case neg=>exact same 1 (by decide) (Gt.zU (fun g=>hk g.2)).1
 by_cases ha:aS.asked o.refs r.c=true
 ·exact same 11 (by decide) (Gt.El hR hk ha).1
 have ha:=Bool.eq_false_iff.2 ha;by_cases hf:(o.refs.length:Int)+1=o.cap
 ·obtain⟨g1,g2,g3⟩:=Gt.oz hR hk ha hf
  have hlen:(o.refs++[r]).length=o.refs.length+1:=by simp
  unfold wait;rw[g1,g2,g3,if_neg (by rw[hlen];omega)]
  split
  ·exact dW
  ·refine⟨fun _=>⟨?_,fun x hx=>?_⟩,fun e=>by cases e⟩
   ·show(kE { o with refs:=[],round:=o.round+1 } ++ (rR ((o.refs++[r]).take ((o.refs++[r]).length-1)) ⟨0,num o.round⟩).map (·.r)).Perm _
    rw[ew,e0,hlen,Nat.add_sub_cancel,List.take_left];unfold rR;rw[List.map_map]
    show([]++o.refs.map id).Perm _
    rw[List.map_id,aJ]
   ·rw[eh] at hx;cases hx
 ·obtain⟨g1,g2,g3⟩:=Gt.ow hR hk ha hf
  unfold wait;rw[g1,g2,g3,if_pos (show([]:List Rf).length=0 from rfl)];refine⟨fun e=>(by cases e),fun _=>⟨rfl,?_,fun x hx=>?_⟩⟩
  ·have:kE { o with refs:=o.refs++[r] } = o.refs++[r]:=if_neg h3
   rw[this,e0]
  ·have e:hld { o with refs:=o.refs++[r] } = []:=if_neg h3
   rw[e] at hx;cases hx
theorem QD{o:Ob}(h:One o=true)(r:Rf){c:aF.C}(hk:4≤c.k∧c.k≤17)(h4:¬c.k=4)(h5:¬c.k=5)(hf:fits c.k o.kind=true):
  Moves (kE o) (hld o) (kE (act o r c).o) (hld (act o r c).o) r (act o r c).later ((act o r c).outs.map (·.r)):=by
 unfold act
 rcases qz hk h4 h5 with k|k|k|k|k|k|k|k|k|k|k|k<;>rw[k] at hf<;>simp only[k]<;>unfold fits at hf<;>simp at hf ⊢
 ·exact dW
 ·exact dW
 ·exact dW
 ·exact dW
 ·exact dW
 ·exact dW
 ·exact JV h hf r
 ·exact KX h hf r
 ·exact JK h hf r
 ·exact dW
 ·exact dW
 ·exact dW
theorem DJ{l:List Ob}(h:av.Right l)(r:Rf)(c:aF.C):Moves (W l) (H l) (W (iC l r c).l) (H (iC l r c).l) r (iC l r c).later ((iC l r c).outs.map (·.r)):=by
 by_cases hc:bG l r c=0
 case neg=>
  rw[uw hc];exact dW
 obtain⟨⟨_,hr,hk⟩,he,hn,ho⟩:=Bz hc;by_cases h4:c.k=4
 ·rw[wT hc h4]
  have hf:jc l c.name=none:=by
   have:=(hn h4).1
   cases hx:jc l c.name with
   | none=>rfl
   | some x=>rw[hx] at this;cases this
  have e1:kE (fresh c)=[]:=by unfold kE fresh;split<;>rfl
  have e2:hld (fresh c)=[]:=by unfold hld fresh;split<;>rfl
  have p1:=sJ kE h.up c.name (fresh c);have p2:=sJ hld h.up c.name (fresh c);rw[PE hf] at p1 p2;rw[e1] at p1;rw[e2] at p2;refine⟨fun _=>⟨?_,fun x hx=>.inl ?_⟩,fun e=>by cases e⟩
  ·show(W (put l c.name (fresh c))++[]).Perm _
   rw[List.append_nil];exact p1
  ·exact p2.mem_iff.1 hx
 obtain⟨o,ho1,ho2,ho3⟩:=ho h4;have hO:=h.ok o (Bh ho1).1;by_cases h5:c.k=5
 ·rw[wU hc h5]
  have hr0:o.refs=[]:=List.length_eq_zero_iff.1 (by have:=fun g=>ho3 ⟨h5,g⟩;omega);have e1:kE o=[]:=by unfold kE;rw[hr0];split<;>rfl
  have e2:hld o=[]:=by unfold hld;rw[hr0];split<;>rfl
  have p1:=wB kE h.up ho1;have p2:=wB hld h.up ho1;rw[e1] at p1;rw[e2] at p2;refine⟨fun _=>⟨?_,fun x hx=>.inl ?_⟩,fun e=>by cases e⟩
  ·show(W (wo l c.name)++[]).Perm _
   rw[List.append_nil];exact p1.symm
  ·exact p2.symm.mem_iff.1 hx
 rw[wV hc h4 h5 ho1];have p1:=wB kE h.up ho1;have p2:=wB hld h.up ho1;have q1:=sJ kE h.up c.name (act o r c).o;have q2:=sJ hld h.up c.name (act o r c).o;obtain⟨m1,m2⟩:=QD hO r hk h4 h5 ho2;dsimp only;refine⟨fun hl=>?_,fun hl=>?_⟩
 ·obtain⟨a,b⟩:=m1 hl
  refine⟨?_,fun x hx=>?_⟩
  ·refine List.Perm.trans ?_ p1.symm
   refine List.Perm.trans (q1.append_right _) ?_;refine List.Perm.trans ?_ (a.append_right _);rw[List.append_assoc,List.append_assoc];exact Rm
  ·rcases List.mem_append.1 (q2.mem_iff.1 hx) with g|g
   ·rcases b x g with g|g
    ·exact .inl (p2.symm.mem_iff.1 (List.mem_append.2 (.inl g)))
    ·exact .inr g
   ·exact .inl (p2.symm.mem_iff.1 (List.mem_append.2 (.inr g)))
 ·obtain⟨a,b,d⟩:=m2 hl
  refine⟨a,?_,fun x hx=>?_⟩
  ·refine List.Perm.trans q1 ?_
   refine List.Perm.trans (b.append_right _) ?_;refine List.Perm.trans ?_ (p1.symm.append_right _);rw[List.append_assoc,List.append_assoc];exact Rm
  ·rcases List.mem_append.1 (q2.mem_iff.1 hx) with g|g
   ·exact p2.symm.mem_iff.1 (List.mem_append.2 (.inl (d x g)))
   ·exact p2.symm.mem_iff.1 (List.mem_append.2 (.inr g))
end Ap
end
section
namespace Ap
open av
theorem nI{e:Int}{v:Val.V}(h2:Val.bG v=0)(h1:0≤e∧e≤18:=by decide):rep ⟨e,v⟩=true:=by
 unfold rep;rw[decide_eq_true h1.1,decide_eq_true h1.2,decide_eq_true h2]
 rfl
theorem BA:Val.bG ⟨0,0,0,⟨#[]⟩⟩=0:=Val.VB
theorem pz{e:Int}(h:0≤e∧e≤18):rep (err e)=true:=nI (h1:=h) BA
theorem tN(v:Val.V):0≤Val.bG v∧Val.bG v≤18:=by
 unfold Val.bG
 repeat' split
 all_goals decide
theorem Qq(c:aF.C):0≤aF.bG c∧aF.bG c≤18:=by
 have h1:=tN c.old;have h2:=tN c.val;unfold aF.bG
 repeat' split
 all_goals first|decide|exact h1|exact h2
theorem KG(k:ByteArray)(v:Val.V):0≤aK.ji k v∧aK.ji k v≤18:=by
 have h:=tN v;unfold aK.ji
 repeat' split
 all_goals first|decide|exact h
theorem JO(v:Val.V):0≤dK.jq v∧dK.jq v≤18:=by
 have h:=tN v;unfold dK.jq
 repeat' split
 all_goals first|decide|exact h
theorem TB{k:ByteArray}{v:Val.V}(h:aK.ji k v=0):Val.bG v=0:=by
 unfold aK.ji at h
 split at h
 ·cases h
 ·split at h
  ·cases h
  ·exact h
theorem KV(l:List aK.Pr)(k:ByteArray):Val.bG (aK.pK l k)=0:=by
 unfold aK.pK
 split
 next h=>
  cases hf:aK.jc l k with
  | none=>exact BA
  | some v=>
   obtain⟨x,hx,_,e⟩:=aK.Ig hf;rw[← e];exact TB (h.ok x hx)
 next=>exact BA
theorem Dw(l:List aK.Pr)(k:ByteArray):0≤aK.pE l k∧aK.pE l k≤18:=by
 unfold aK.pE
 repeat' split
 all_goals decide
theorem CZ(l:List aK.Pr)(k:ByteArray)(v:Val.V):0≤aK.rT l k v∧aK.rT l k v≤18:=by
 have h:=KG k v;unfold aK.rT
 repeat' split
 all_goals first|decide|exact h
theorem Ol(l:List aK.Pr)(k:ByteArray)(o v:Val.V):0≤aK.Ah l k o v∧aK.Ah l k o v≤18:=by
 have h:=CZ l k v;unfold aK.Ah
 repeat' split
 all_goals first|decide|exact h
theorem abD(l:List aK.Pr)(k:ByteArray)(o:Val.V):Val.bG (aK.Jo l k o)=0:=by
 unfold aK.Jo
 split
 ·exact BA
 ·exact KV l k
theorem Pj(n:Int)(l:List Val.V)(v:Val.V):0≤dK.uM n l v∧dK.uM n l v≤18:=by
 have h:=JO v;unfold dK.uM
 repeat' split
 all_goals first|decide|exact h
theorem Pm(n:Int)(l:List Val.V):0≤dK.KF n l∧dK.KF n l≤18:=by
 unfold dK.KF
 repeat' split
 all_goals decide
theorem acd(n:Int)(l:List Val.V):Val.bG (dK.Jp n l)=0:=by
 unfold dK.Jp
 split
 next h=>
  cases l with
  | nil=>exact BA
  | cons v m=>
   have:=h.ok v (List.mem_cons_self ..)
   show Val.bG v=0
   unfold dK.jq at this
   split at this
   ·cases this
   ·exact this
 next=>exact BA
theorem QB(x:mG):0≤Mt.Lr x∧Mt.Lr x≤18:=by
 unfold Mt.Lr
 repeat' split
 all_goals decide
theorem Og(l:List Rf)(r:Rf):0≤aS.yY l r∧aS.yY l r≤18:=by
 unfold aS.yY
 repeat' split
 all_goals decide
theorem Qi(l:List Rf)(r:Rf):0≤aS.zJ l r∧aS.zJ l r≤18:=by
 unfold aS.zJ
 repeat' split
 all_goals decide
theorem NV(m:Int)(l:List Rf)(r:Rf):0≤Gt.qB m l r∧Gt.qB m l r≤18:=by
 unfold Gt.qB
 repeat' split
 all_goals decide
theorem KM{n:Int}:Val.bG (num n)=0:=Val.Ny n
theorem abT(x:mG)(q:Int):rep ⟨(Mt.rd x q).e,⟨(Mt.rd x q).k,(Mt.rd x q).n,(Mt.rd x q).f,⟨#[]⟩⟩⟩=true:=by
 unfold Mt.rd
 split
 ·exact pz (e:=1) (by decide)
 next h=>
  split
  ·exact nI (e:=0) (Val.Ny x.n)
  ·split
   ·exact pz (e:=10) (by decide)
   next hn=>
    refine nI (e:=0) (Val.Qu ?_);have hok:Mt.Ok x:=Decidable.byContradiction fun g=>h (.inl g)
    rcases hok with ⟨g,_⟩|⟨_,g1,g2,g3,_⟩
    ·exact absurd g hn
    ·split
     ·exact g1
     ·split
      ·exact g2
      ·exact g3
theorem RG(o:Ob)(r:Rf):rep (wait o r).p=true∧∀y∈(wait o r).outs,rep y.p=true:=by
 generalize hx:wait o r=x;unfold wait at hx
 split at hx
 ·subst hx;exact⟨pz (NV ..),fun y hy=>by cases hy⟩
 split at hx
 ·subst hx;exact⟨pz (e:=6) (by decide),fun y hy=>by cases hy⟩
 ·subst hx
  refine⟨nI (e:=0) (KM),fun y hy=>?_⟩;obtain⟨x,_,e⟩:=List.mem_map.1 hy;rw[← e];exact nI (e:=0) (KM)
theorem uJ:rep rz=true:=nI BA
theorem Ia{y:Rf}{b:Bool}:∀z∈held y b,rep z.p=true:=fun z hz=>by
 unfold held at hz
 split at hz
 ·rw[List.mem_singleton.1 hz];exact uJ
 ·cases hz
theorem YU{o:Ob}(r:Rf)(c:aF.C):rep (act o r c).p=true∧∀y∈(act o r c).outs,rep y.p=true:=by
 have none:∀y∈([]:List Ot),rep y.p=true:=fun y hy=>by cases hy
 generalize hx:act o r c=x;unfold act at hx;by_cases h12:c.k=12
 ·rw[if_pos h12] at hx;subst hx;exact⟨pz (Og ..),none⟩
 rw[if_neg h12] at hx;by_cases Dv:c.k=13
 ·rw[if_pos Dv] at hx;subst hx;exact⟨pz (Qi ..),Ia⟩
 rw[if_neg Dv] at hx;by_cases vJ:c.k=14
 ·rw[if_pos vJ] at hx;subst hx;exact RG o r
 rw[if_neg vJ] at hx;by_cases h6:c.k=6
 ·rw[if_pos h6] at hx;subst hx;exact⟨nI (h1:=(Dw ..)) (KV ..),none⟩
 rw[if_neg h6] at hx;by_cases h7:c.k=7
 ·rw[if_pos h7] at hx;subst hx;exact⟨pz (CZ ..),none⟩
 rw[if_neg h7] at hx;by_cases h8:c.k=8
 ·rw[if_pos h8] at hx;subst hx;exact⟨nI (h1:=(Dw ..)) (KV ..),none⟩
 rw[if_neg h8] at hx;by_cases h9:c.k=9
 ·rw[if_pos h9] at hx;subst hx;exact⟨nI (h1:=(Ol ..)) (abD ..),none⟩
 rw[if_neg h9] at hx;by_cases h10:c.k=10
 ·rw[if_pos h10] at hx;subst hx;exact⟨pz (Pj ..),none⟩
 rw[if_neg h10] at hx;by_cases h11:c.k=11
 ·rw[if_pos h11] at hx;subst hx;exact⟨nI (h1:=(Pm ..)) (acd ..),none⟩
 rw[if_neg h11] at hx;by_cases h15:c.k=15
 ·rw[if_pos h15] at hx;subst hx;exact⟨pz (QB ..),none⟩
 rw[if_neg h15] at hx;by_cases h16:c.k=16
 ·rw[if_pos h16] at hx;subst hx;exact⟨abT ..,none⟩
 rw[if_neg h16] at hx;by_cases Ib:c.k=17
 ·rw[if_pos Ib] at hx;subst hx;exact⟨nI (e:=0) (KM),none⟩
 rw[if_neg Ib] at hx;subst hx;exact⟨uJ,none⟩
theorem Qt(l:List Ob)(r:Rf)(c:aF.C):0≤bG l r c∧bG l r c≤18:=by
 have h:=Qq c;unfold bG IU Fw
 repeat' split
 all_goals first|decide|exact h
theorem Ns(l:List Ob)(r:Rf)(c:aF.C):rep (iC l r c).p=true∧∀y∈(iC l r c).outs,rep y.p=true:=by
 have none:∀y∈([]:List Ot),rep y.p=true:=fun y hy=>by cases hy
 generalize hx:iC l r c=x;unfold iC at hx
 split at hx
 ·subst hx;exact⟨pz (Qt ..),none⟩
 split at hx
 ·subst hx;exact⟨uJ,none⟩
 split at hx
 ·subst hx;exact⟨uJ,none⟩
 split at hx
 ·subst hx;exact⟨uJ,none⟩
 ·subst hx;exact YU r c
theorem IC(l:List Ob){r:Rf}:∀y∈jM l r,rep y.p=true:=fun y hy=>by
 unfold jM at hy
 split at hy
 ·obtain⟨o,_,hy⟩:=List.mem_flatMap.1 hy
  unfold uF at hy
  split at hy
  ·exact Ia y hy
  ·cases hy
 ·cases hy
end Ap
end
end Go.Proofs.YtieoeendnccafaaGreat
