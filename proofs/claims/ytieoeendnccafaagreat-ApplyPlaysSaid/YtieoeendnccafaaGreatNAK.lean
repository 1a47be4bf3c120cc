/- What named, fits, size, number, held, having, checkNew return. No condition but those named. -/
import Derived.Test.YtieoeendnccafaaGreatNAJ
set_option linter.unusedSimpArgs false
set_option linter.unusedVariables false
set_option maxRecDepth 100000
set_option maxHeartbeats 25600000
open Go.RowKit
namespace Go.Proofs.YtieoeendnccafaaGreat
open _root_.Go.Proofs.Tryz
section
namespace Ap
open av aH
structure St where
 n:Int
 l:List Ob
 t:T
structure Ok(s:St):Prop where
 n:0≤s.n
 l:av.Right s.l
 t:aH.Right s.t
 w:∀r∈W s.l,aH.look s.t r=3
 h:∀r∈H s.l,Hd s.t r∧¬(r.r=(s.t.get r.c).rq∧(s.t.get r.c).dn=false)
 p:∀c∈([0,1,2,3,4]:List Int),cnt (W s.l) c=if opn (s.t.get c)=true then 1 else 0
instance (s:St):Decidable (Ok s):=decidable_of_iff (0≤s.n∧av.Right s.l∧aH.Right s.t∧(∀r∈W s.l,aH.look s.t r=3)∧(∀r∈H s.l,Hd s.t r∧¬(r.r=(s.t.get r.c).rq∧(s.t.get r.c).dn=false))∧∀c∈([0,1,2,3,4]:List Int),cnt (W s.l) c=if opn (s.t.get c)=true then 1 else 0)
 ⟨fun⟨a,b,c,d,e,f⟩=>⟨a,b,c,d,e,f⟩,fun h=>⟨h.n,h.l,h.t,h.w,h.h,h.p⟩⟩
theorem five{c:Int}:c∈([0,1,2,3,4]:List Int)↔0≤c∧c<5:=by
 simp only[List.mem_cons,List.not_mem_nil,or_false];omega
theorem Ok.j{s:St}(h:Ok s):J s.t (W s.l) [] (H s.l):=
 ⟨h.t,fun r hr=>h.w r (by simpa using hr),fun c hc=>by rw[List.append_nil];exact h.p c (five.2 hc),fun r hr=>⟨kV (ahS h.l hr),(h.h r hr).1,fun e1 e2=>absurd ⟨e1,e2⟩ (h.h r hr).2⟩⟩
theorem J.state{s:St}(hn:0≤s.n)(hl:av.Right s.l)(j:J s.t (W s.l) [] (H s.l)):Ok s:=
 ⟨hn,hl,j.ok,fun r hr=>j.w r (by simpa using hr),fun r hr=>⟨(j.h r hr).2.1,fun g=>by have:=(j.h r hr).2.2 g.1 g.2;cases this⟩,fun c hc=>by have:=j.p c (five.1 hc);rwa [List.append_nil] at this⟩
def rf(t:T)(c:Int):Rf:=⟨c,(t.get c).ep,(t.get c).rq⟩
def dP(Y:List Ot):List (Rf×Rp):=Y.map fun y=>(y.r,y.p)
theorem Mk(Y:List Ot):(dP Y).map (·.1)=Y.map (·.r):=by unfold dP;rw[List.map_map];rfl
theorem Mj{Y:List Ot}(h:∀y∈Y,rep y.p=true):∀z∈dP Y,rep z.2=true:=fun z hz=>by
 obtain⟨y,hy,e⟩:=List.mem_map.1 hz;rw[← e];exact h y hy
def dX(s:St)(c:Int):St:=⟨s.n,aI s.l (rf s.t c),Ap.ends (fJ s.t c) (dP (jM s.l (rf s.t c)))⟩
def eZ(s:St)(c:Int):List Ot:=(if (s.t.get c).dn=true then [] else [⟨rf s.t c,err 14⟩])++jM s.l (rf s.t c)
theorem aaw{s:St}(h:Ok s){c:Int}{x:Rf}(hx:x∈W s.l∨x∈H s.l):nm (rf s.t c) x=!decide (x.c=c):=by
 have he:=h.j.mine (r:=x) (hx.imp (fun g=>by simpa using g) id);unfold nm
 congr 1
 refine decide_eq_decide.2 ⟨fun g=>g.1,fun g=>⟨g,?_⟩⟩
 show x.e=(s.t.get c).ep
 rw[he,g]
theorem EP{s:St}(h:Ok s){c:Int}(hc:0≤c∧c<5)(hl:(s.t.get c).live=true):
  J (fJ s.t c) (W (aI s.l (rf s.t c))) ((jM s.l (rf s.t c)).map (·.r)) (H (aI s.l (rf s.t c)))∧∀y∈jM s.l (rf s.t c),¬y.r.c=c∧y.r∈W s.l:=by
 obtain⟨p1,p2⟩:=Lc h.l (rf s.t c);have ew:(W s.l).filter (nm (rf s.t c))=(W s.l).filter fun x=>!decide (x.c=c):=List.filter_congr fun x hx=>aaw h (.inl hx)
 rw[ew] at p1
 constructor
 ·refine(h.j.close hc hl).perm ?_ fun x hx=>?_
  ·rw[List.filter_nil,List.append_nil];exact p1
  ·rcases p2 x hx with ⟨g1,g2⟩|g
   ·refine .inl ⟨List.mem_filter.2 ⟨g1,?_⟩,fun g=>by cases g⟩
    rw[aaw h (.inr g1)] at g2;exact g2
   ·exact .inr g
 ·intro y hy
  have:y.r∈(W s.l).filter fun x=>!decide (x.c=c):=p1.mem_iff.1 (List.mem_append.2 (.inr (List.mem_map.2 ⟨y,hy,rfl⟩)))
  obtain⟨g1,g2⟩:=List.mem_filter.1 this;exact⟨by simpa using g2,g1⟩
theorem AQ{s:St}(h:Ok s){c:Int}(hc:0≤c∧c<5)(hl:(s.t.get c).live=true):Ok (dX s c):=by
 obtain⟨j,_⟩:=EP h hc hl;refine J.state (s:=dX s c) h.n (vM h.l _) (J.ends ?_ (Mj (IC s.l)));rw[Mk,List.append_nil];exact j
theorem YB{t:T}{r:Rf}{x:Rp}{c:Int}(hc:0≤c∧c<5)(hn:¬r.c=c):(fP t r x).get c=t.get c:=by
 unfold fP
 split
 next g=>
  obtain⟨hk,_,_⟩:=jS g.1;exact kP (kV hk) hc (fun e=>hn e.symm) _
 next=>rfl
theorem Iz{c:Int}(hc:0≤c∧c<5):∀{Y:List (Rf×Rp)} {t:T},(∀y∈Y,¬y.1.c=c)→(Ap.ends t Y).get c=t.get c
 | [],_,_=>rfl
 | y::m,t,h=>(Iz hc (Y:=m) (t:=fP t y.1 y.2) fun z hz=>h z (List.mem_cons_of_mem _ hz)).trans (YB hc (h y (List.mem_cons_self ..)))
theorem Dm{s:St}(h:Ok s){c:Int}(hc:0≤c∧c<5)(hl:(s.t.get c).live=true):(dX s c).t.get c=jk (s.t.get c):=by
 obtain⟨_,hy⟩:=EP h hc hl;have e:fJ s.t c=s.t.set c (jk (s.t.get c)):=if_pos ⟨hc.1,hc.2,h.t,hl⟩
 show(Ap.ends (fJ s.t c) _).get c=_
 rw[Iz hc,e,bU hc];intro z hz;obtain⟨y,hy2,e⟩:=List.mem_map.1 hz;rw[← e];exact(hy y hy2).1
theorem sZ(s:S):(jk s).live=false∧(jk s).ep=s.ep∧(jk s).rq=s.rq∧(jk s).dn=true∧(s.dn=true→(jk s).p=s.p)∧(s.dn=false→(jk s).p=err 14):=by
 unfold jk
 split
 next g=>exact⟨rfl,rfl,rfl,g,fun _=>rfl,fun e=>by rw[g] at e;cases e⟩
 next g=>exact⟨rfl,rfl,rfl,rfl,fun e=>absurd e g,fun _=>rfl⟩
def left(s:St)(c:Int):St:=if (s.t.get c).live=true then dX s c else s
def jN(s:St)(r:Rf):St:=⟨(left s r.c).n,(left s r.c).l,jB (left s r.c).t r⟩
def nK(s:St)(r:Rf):List Ot:=⟨r,oH (left s r.c).t r⟩::(if (s.t.get r.c).live=true then eZ s r.c else [])
theorem MC{s:St}(h:Ok s){c:Int}(hc:0≤c∧c<5):Ok (left s c)∧((left s c).t.get c).live=false∧((left s c).t.get c).ep=(s.t.get c).ep∧(left s c).n=s.n:=by
 unfold left
 split
 next hl=>
  have e:=Dm h hc hl;have g:=sZ (s.t.get c);exact⟨AQ h hc hl,by rw[e];exact g.1,by rw[e];exact g.2.1,rfl⟩
 next hl=>exact⟨h,Bool.eq_false_iff.2 hl,rfl,rfl⟩
theorem PS{s:St}(h:Ok s){r:Rf}(hl:aH.look s.t r=1)(h0:r.r=0):aH.look (left s r.c).t r=1:=by
 obtain⟨hk,_,hs⟩:=jS hl;obtain⟨g1,_,g3,_⟩:=MC h (kV hk);unfold aH.look;rw[if_pos ⟨hk,g1.t⟩];unfold oI;rw[if_pos];rw[g3]
 rcases wN hs with g|⟨_,g,_,_⟩
 ·exact g
 ·exfalso
  have:=(kZ h.t (kV hk));by_cases he:(s.t.get r.c).ep=0
  ·have:=wD this he
   rw[this] at g;have:r.r=0+1:=g;omega
  ·have:=(one_pos this he).2.2.1
   omega
theorem XL{s:St}(h:Ok s){r:Rf}(hk:aS.ok r)(h0:r.r=0):Ok (jN s r):=by
 obtain⟨g1,g2,_,g4⟩:=MC h (kV hk);refine J.state (s:=jN s r) (by show 0≤(left s r.c).n;rw[g4];exact h.n) g1.l ?_
 show J (jB (left s r.c).t r) _ [] _
 by_cases hl:aH.look (left s r.c).t r=1
 ·exact g1.j.open_ hl h0 g2
 ·have:jB (left s r.c).t r=(left s r.c).t:=if_neg fun g=>hl g.1
  rw[this];exact g1.j
def touch(s:St)(r:Rf):St:=⟨s.n,s.l,fP (iq s.t r) r rz⟩
def kept(s:St)(r:Rf)(c:aF.C):St:=⟨s.n,(iC s.l r c).l,Ap.ends (fP (iq s.t r) r (iC s.l r c).p) (dP (iC s.l r c).outs)⟩
def gB(s:St)(r:Rf)(c:aF.C):St:=
 if c.k=3 then touch s r else if c.k=2 then dX (touch s r) r.c
 else if (iC s.l r c).later=true then ⟨s.n,(iC s.l r c).l,iq s.t r⟩ else kept s r c
def jE(s:St)(r:Rf)(c:aF.C):List Ot:=
 if c.k=3 then [⟨r,rz⟩] else if c.k=2 then ⟨r,rz⟩::eZ (touch s r) r.c
 else if (iC s.l r c).later=true then [] else ⟨r,(iC s.l r c).p⟩::(iC s.l r c).outs
theorem Af{s:St}(h:Ok s){r:Rf}(hl:aH.look s.t r=1)(h0:¬r.r=0):Ok (touch s r):=
 J.state (s:=touch s r) h.n h.l ((h.j.begin hl h0).end_ (x:=rz) uJ)
theorem NG{t:T}{r:Rf}(hl:aH.look t r=1)(h0:¬r.r=0):(iq t r).get r.c = { t.get r.c with rq:=r.r,dn:=false,p:=rz }:=by
 unfold iq;rw[if_pos ⟨hl,h0⟩,bU (nN hl (by decide))]
theorem BH{t:T}{r:Rf}(hl:aH.look t r=1)(h0:¬r.r=0):aH.look (iq t r) r=3:=by
 obtain⟨hk,hR,g1,g2,g3,g4⟩:=kr hl h0;refine TV hk (DU hR r) ?_ ?_ ?_<;>rw[NG hl h0];exact g1
theorem Fb{t:T}{r:Rf}{x:Rp}(hl:aH.look t r=3)(hx:rep x=true):(fP t r x).get r.c = { t.get r.c with dn:=true,p:=x }:=by
 unfold fP;rw[if_pos ⟨hl,hx⟩,bU (nN hl (by decide))]
theorem xJ{s:St}{r:Rf}{x:Rp}(hl:aH.look s.t r=1)(h0:¬r.r=0)(hx:rep x=true):(fP (iq s.t r) r x).get r.c = { s.t.get r.c with rq:=r.r,dn:=true,p:=x }:=by
 rw[Fb (BH hl h0) hx,NG hl h0]
theorem UK{s:St}(h:Ok s){r:Rf}(hl:aH.look s.t r=1)(h0:¬r.r=0)(c:aF.C):Ok (gB s r c):=by
 have hc:=nN hl (by decide);have hlive:=(kr hl h0).2.2.2.2.1;unfold gB
 split
 ·exact Af h hl h0
 split
 ·refine AQ (Af h hl h0) hc ?_
  show((fP (iq s.t r) r rz).get r.c).live=true
  rw[xJ hl h0 uJ];exact hlive
 have j:=h.j.begin hl h0;have hnot:=h.j.Qg hl h0;obtain⟨m1,m2⟩:=DJ h.l r c;obtain⟨d1,d2⟩:=Ns s.l r c;have hR:=Qn h.l r c
 split
 next hla=>
  obtain⟨_,a,b⟩:=m2 hla;refine J.state (s:=⟨s.n,(iC s.l r c).l,iq s.t r⟩) h.n hR (j.perm ?_ fun x hx=>.inl ⟨b x hx,fun g=>?_⟩)
  ·rw[List.append_nil];exact a
  ·rw[aJ] at g
   rw[List.mem_singleton.1 g] at hx;exact absurd (b r hx) hnot
 next hla=>
  obtain⟨a,b⟩:=m1 (Bool.eq_false_iff.2 hla)
  have j2:J (iq s.t r) (W (iC s.l r c).l) (r::(iC s.l r c).outs.map (·.r)) (H (iC s.l r c).l):=by
   refine j.perm ?_ fun x hx=>?_
   ·refine List.Perm.trans List.perm_middle ?_
    exact ZH
   ·rcases b x hx with g|g|g
    ·refine .inl ⟨g,fun g2=>?_⟩
     rw[aJ] at g2;rw[List.mem_singleton.1 g2] at g;exact absurd g hnot
    ·exact .inr (List.mem_cons_of_mem _ g)
    ·rw[g];exact .inr (List.mem_cons_self ..)
  have j3:=j2.end_ (x:=(iC s.l r c).p) d1;refine J.state (s:=kept s r c) h.n hR (J.ends ?_ (Mj d2));rw[Mk,List.append_nil];exact j3
def ref(e:aF.E):Rf:=⟨e.c,e.e,e.r⟩
def up(s:St):St:=⟨s.n+1,s.l,s.t⟩
def Can(s:St)(e:aF.E):Prop:=Ok s∧aF.fits e∧¬s.n=9223372036854775807
instance (s:St) (e:aF.E):Decidable (Can s e):=by unfold Can;infer_instance
def sU(s:St)(e:aF.E):St:=
 if e.cmd.k=18 then (if (s.t.get e.c).live=true∧(s.t.get e.c).ep=e.e then dX s e.c else s)
 else if aH.look s.t (ref e)=1 then (if e.r=0 then jN s (ref e) else gB s (ref e) e.cmd) else s
def uO(s:St)(e:aF.E):List Ot:=
 if e.cmd.k=18 then (if (s.t.get e.c).live=true∧(s.t.get e.c).ep=e.e then eZ s e.c else [])
 else if aH.look s.t (ref e)=1 then (if e.r=0 then nK s (ref e) else jE s (ref e) e.cmd)
 else if aH.look s.t (ref e)=2 then [⟨ref e,(s.t.get e.c).p⟩] else if aH.look s.t (ref e)=4 then [⟨ref e,err 14⟩] else []
def mD(s:St)(e:aF.E):St:=if Can s e then sU (up s) e else s
def rV(s:St)(e:aF.E):List Ot:=if Can s e then uO (up s) e else []
theorem CB{s:St}(h:Ok s):Ok (up s):=⟨by show 0≤s.n+1;have:=h.n;omega,h.l,h.t,h.w,h.h,h.p⟩
theorem lX{e:aF.E}(h:aF.fits e):aS.ok (ref e):=h.1
theorem go_ok{s:St}(h:Ok s){e:aF.E}(he:aF.fits e):Ok (sU s e):=by
 have hk:=lX he;unfold sU
 split
 ·split
  next g=>exact AQ h (kV hk) g.1
  next=>exact h
 ·split
  next hl=>
   split
   next h0=>exact XL h hk h0
   next h0=>exact UK h hl h0 e.cmd
  next=>exact h
theorem VU{s:St}(h:Ok s)(e:aF.E):Ok (mD s e):=by
 unfold mD
 split
 next g=>exact go_ok (CB h) g.2.1
 next=>exact h
theorem acD(s:St){c:Int}:(left s c).n=s.n:=by unfold left;split<;>rfl
theorem ahC(s:St)(e:aF.E):(sU s e).n=s.n:=by
 unfold sU gB
 repeat' split
 all_goals first|rfl|exact acD s
end Ap
end
section
namespace Ap
open av aH
theorem MB(s:St)(c:Int):left (up s) c=up (left s c):=by
 unfold left
 show(if (s.t.get c).live=true then up (dX s c) else up s)=_
 split<;>rfl
theorem Pz(s:St)(r:Rf):jN (up s) r=up (jN s r):=by
 unfold jN;rw[MB]
 rfl
theorem TJ(s:St)(r:Rf):nK (up s) r=nK s r:=by
 unfold nK;rw[MB]
 rfl
theorem Qh(s:St)(r:Rf)(c:aF.C):gB (up s) r c=up (gB s r c):=by
 unfold gB
 show(if c.k=3 then up (touch s r) else if c.k=2 then up (dX (touch s r) r.c) else if (iC s.l r c).later=true then up ⟨s.n,(iC s.l r c).l,iq s.t r⟩ else up (kept s r c))=_
 by_cases h3:c.k=3
 ·rw[if_pos h3,if_pos h3]
 rw[if_neg h3,if_neg h3];by_cases h2:c.k=2
 ·rw[if_pos h2,if_pos h2]
 rw[if_neg h2,if_neg h2];by_cases hl:(iC s.l r c).later=true
 ·rw[if_pos hl,if_pos hl]
 rw[if_neg hl,if_neg hl]
theorem Yr(s:St)(e:aF.E):uO (up s) e=uO s e:=by
 unfold uO;rw[TJ]
 rfl
theorem afK(s:St)(e:aF.E):sU (up s) e=up (sU s e):=by
 unfold sU;rw[Pz,Qh]
 show(if e.cmd.k=18 then (if (s.t.get e.c).live=true∧(s.t.get e.c).ep=e.e then up (dX s e.c) else up s) else if aH.look s.t (ref e)=1 then (if e.r=0 then up (jN s (ref e)) else up (gB s (ref e) e.cmd)) else up s)=_
 by_cases h1:e.cmd.k=18
 ·rw[if_pos h1,if_pos h1]
  split<;>rfl
 rw[if_neg h1,if_neg h1];by_cases h2:aH.look s.t (ref e)=1
 ·rw[if_pos h2,if_pos h2]
  split<;>rfl
 rw[if_neg h2,if_neg h2]
def own:List Ot→Rf→Option Rp
 | [],_=>none
 | y::m,r=>if y.r=r then some y.p else own m r
theorem Ic{s:St}{e:aF.E}(hk:e.cmd.k=18):sU s e=(if (s.t.get e.c).live=true∧(s.t.get e.c).ep=e.e then dX s e.c else s)∧uO s e=(if (s.t.get e.c).live=true∧(s.t.get e.c).ep=e.e then eZ s e.c else []):=⟨if_pos hk,if_pos hk⟩
theorem Yu{s:St}{e:aF.E}(hk:¬e.cmd.k=18)(hl:aH.look s.t (ref e)=1):sU s e=(if e.r=0 then jN s (ref e) else gB s (ref e) e.cmd)∧uO s e=(if e.r=0 then nK s (ref e) else jE s (ref e) e.cmd):=by
 unfold sU uO;rw[if_neg hk,if_neg hk,if_pos hl,if_pos hl];exact ni
theorem afM{s:St}{e:aF.E}(hk:¬e.cmd.k=18)(hl:aH.look s.t (ref e)=2):sU s e=s∧uO s e=[⟨ref e,(s.t.get e.c).p⟩]:=by
 unfold sU uO;rw[if_neg hk,if_neg hk,hl];exact ni
theorem afL{s:St}{e:aF.E}(hk:¬e.cmd.k=18)(hl:¬aH.look s.t (ref e)=1):sU s e=s∧(uO s e).length≤1:=by
 unfold sU uO;rw[if_neg hk,if_neg hk,if_neg hl,if_neg hl];refine⟨rfl,?_⟩
 repeat' split
 all_goals first|exact Nat.zero_le _|exact Nat.le_refl _
theorem yB{s:St}{e:aF.E}(h:¬Can s e):mD s e=s∧rV s e=[]:=⟨if_neg h,if_neg h⟩
theorem VY{s:St}{e:aF.E}(h:Can s e):mD s e=up (sU s e)∧rV s e=uO s e:=⟨(if_pos h).trans (afK s e),(if_pos h).trans (Yr s e)⟩
def small(k:Int):aF.C:=⟨k,⟨#[]⟩,⟨#[]⟩,⟨0,0,0,⟨#[]⟩⟩,⟨0,0,0,⟨#[]⟩⟩,0,0⟩
theorem sW:∀{Y:List (Rf×Rp)} {t:T},(∀y∈Y,y.2.v.f<18446744073709551616)→aH.Fit t→aH.Fit (Ap.ends t Y)
 | [],_,_,h=>h
 | y::m,t,hy,h=>sW (Y:=m) (fun z hz=>hy z (List.mem_cons_of_mem _ hz)) (aH.mM h y.1 (hy y (List.mem_cons_self ..)))
theorem tY{Y:List Ot}(h:∀y∈Y,y.p.v.f<18446744073709551616):∀z∈dP Y,z.2.v.f<18446744073709551616:=fun z hz=>by
 obtain⟨y,hy,e⟩:=List.mem_map.1 hz;rw[← e];exact h y hy
theorem nO(s:St)(c:Int)(h:(jM s.l (rf s.t c)).length≤8):(eZ s c).length≤9:=by
 unfold eZ;rw[List.length_append]
 split
 ·show 0+_≤9;omega
 ·show 1+_≤9;omega
end Ap
end
section
namespace Ap
open av aH
theorem TY{s:S}{r:Rf}(hs:oI s r=2):r.e=s.ep∧r.r=s.rq∧s.dn=true:=by
 unfold oI at hs;by_cases h1:r.r=0∧s.ep<r.e
 ·rw[if_pos h1] at hs;cases hs
 rw[if_neg h1] at hs;by_cases h2:r.e≠s.ep∨r.r<s.rq
 ·rw[if_pos h2] at hs;cases hs
 rw[if_neg h2] at hs;by_cases h3:r.r=s.rq
 ·rw[if_pos h3] at hs
  by_cases h6:s.dn=true
  ·exact⟨by omega,h3,h6⟩
  ·rw[if_neg h6] at hs;cases hs
 rw[if_neg h3] at hs;by_cases h4:s.live=false
 ·rw[if_pos h4] at hs;cases hs
 rw[if_neg h4] at hs
 split at hs<;>cases hs
theorem TW{s:S}{r:Rf}(hs:oI s r=4):r.e=s.ep∧s.rq<r.r∧s.live=false:=by
 unfold oI at hs;by_cases h1:r.r=0∧s.ep<r.e
 ·rw[if_pos h1] at hs;cases hs
 rw[if_neg h1] at hs;by_cases h2:r.e≠s.ep∨r.r<s.rq
 ·rw[if_pos h2] at hs;cases hs
 rw[if_neg h2] at hs;by_cases h3:r.r=s.rq
 ·rw[if_pos h3] at hs
  split at hs<;>cases hs
 rw[if_neg h3] at hs;by_cases h4:s.live=false
 ·exact⟨by omega,by omega,h4⟩
 rw[if_neg h4] at hs
 split at hs<;>cases hs
def Cur(t:T)(y:Ot):Prop:=(0≤y.r.c∧y.r.c<5)∧y.r.e=(t.get y.r.c).ep∧((y.r.r=(t.get y.r.c).rq∧(t.get y.r.c).dn=true∧y.p=(t.get y.r.c).p)∨((t.get y.r.c).rq<y.r.r∧(t.get y.r.c).live=false∧y.p=err 14))
def Old(t:T)(y:Ot):Prop:=(0≤y.r.c∧y.r.c<5)∧(y.r.e<(t.get y.r.c).ep∨(y.r.e=(t.get y.r.c).ep∧y.r.r<(t.get y.r.c).rq))
structure Good(t:T)(O:List Ot):Prop where
 told:∀y∈O,Old t y∨Cur t y
 one:∀y∈O,∀z∈O,y.r=z.r→y.p=z.p
section
variable {t:T}{O:List Ot}{r:Rf}{c:Int}
theorem Good.nil(t:T):Good t []:=⟨fun y hy=>(by cases hy),fun y hy=>(by cases hy)⟩
theorem Good.sub{O':List Ot}(g:Good t O)(h:∀y∈O',y∈O):Good t O':=⟨fun y hy=>g.told y (h y hy),fun y hy z hz=>g.one y (h y hy) z (h z hz)⟩
theorem IG{y z:Ot}(hy:Old t y∨Cur t y)(hz:Cur t z)(e:y.r=z.r):y.p=z.p:=by
 obtain⟨_,z1,z2⟩:=hz
 rcases hy with ⟨_,hy⟩|⟨_,y1,y2⟩
 ·rw[e] at hy
  rcases hy with hy|hy
  ·omega
  ·rcases z2 with ⟨z2,_⟩|⟨z2,_⟩<;>omega
 ·rw[e] at y2
  rcases y2 with ⟨a,b,d⟩|⟨a,b,d⟩<;>rcases z2 with ⟨a',b',d'⟩|⟨a',b',d'⟩
  ·rw[d,d']
  ·omega
  ·omega
  ·rw[d,d']
theorem Good.add(g:Good t O){z:Ot}(h:Cur t z):Good t (O++[z]):=by
 refine⟨fun y hy=>?_,fun y hy x hx e=>?_⟩
 ·rcases List.mem_append.1 hy with hy|hy
  ·exact g.told y hy
  ·rw[List.mem_singleton.1 hy];exact .inr h
 ·rcases List.mem_append.1 hy with hy|hy<;>rcases List.mem_append.1 hx with hx|hx
  ·exact g.one y hy x hx e
  ·rw[List.mem_singleton.1 hx] at e ⊢
   exact IG (g.told y hy) h e
  ·rw[List.mem_singleton.1 hy] at e ⊢
   exact(IG (g.told x hx) h e.symm).symm
  ·rw[List.mem_singleton.1 hy,List.mem_singleton.1 hx]
theorem Good.set(g:Good t O)(hc:0≤c∧c<5){s:S}(h:∀y∈O,y.r.c=c→Old t y∨Cur t y→Old (t.set c s) y∨Cur (t.set c s) y):Good (t.set c s) O:=by
 refine⟨fun y hy=>?_,g.one⟩;by_cases e:y.r.c=c
 ·exact h y hy e (g.told y hy)
 ·rcases g.told y hy with k|k
  ·exact .inl ⟨k.1,by rw[kP hc k.1 e];exact k.2⟩
  ·exact .inr ⟨k.1,by rw[kP hc k.1 e];exact k.2⟩
theorem Good.beg(g:Good t O)(hl:aH.look t r=1)(h0:¬r.r=0):Good (iq t r) O:=by
 obtain⟨hk,hR,g1,g2,g3,g4⟩:=kr hl h0;have hc:=kV hk;have e:iq t r=t.set r.c { t.get r.c with rq:=r.r,dn:=false,p:=rz }:=if_pos ⟨hl,h0⟩;rw[e];refine g.set hc fun y hy e2 k=>.inl ?_
 rcases k with ⟨a,k⟩|⟨a,k1,k2⟩
 ·refine⟨a,?_⟩
  rw[e2] at k ⊢;rw[bU hc]
  show y.r.e<(t.get r.c).ep∨(y.r.e=(t.get r.c).ep∧y.r.r<r.r)
  omega
 ·refine⟨a,.inr ?_⟩
  rw[e2] at k1 k2 ⊢;rw[bU hc];refine⟨k1,?_⟩
  show y.r.r<r.r
  rcases k2 with ⟨k2,_⟩|⟨_,k3,_⟩
  ·omega
  ·rw[g3] at k3;cases k3
theorem Good.end_(g:Good t O){x:Rp}(hl:aH.look t r=3)(hx:rep x=true):Good (fP t r x) (O++[⟨r,x⟩]):=by
 obtain⟨hc,hd,g3,g4,ho⟩:=pV hl;have e:fP t r x=t.set r.c { t.get r.c with dn:=true,p:=x }:=if_pos ⟨hl,hx⟩
 have g2:Good (fP t r x) O:=by
  rw[e];refine g.set hc fun y hy e2 k=>?_
  rcases k with ⟨a,k⟩|⟨a,k1,k2⟩
  ·refine .inl ⟨a,?_⟩
   rw[e2] at k ⊢;rw[bU hc];exact k
  ·rw[e2] at k1 k2
   rcases k2 with ⟨_,k2,_⟩|⟨_,k3,_⟩
   ·rw[g3] at k2;cases k2
   ·rw[hd.1] at k3;cases k3
 refine g2.add ⟨hc,?_,.inl ⟨?_,?_,?_⟩⟩<;>(show _=_;rw[e,bU hc])
 ·exact hd.2.1.symm
 ·exact g4
theorem Good.close(g:Good t O)(hR:aH.Right t)(hc:0≤c∧c<5)(hl:(t.get c).live=true):Good (fJ t c) (O++(if (t.get c).dn=true then [] else [⟨rf t c,err 14⟩])):=by
 have e:fJ t c=t.set c (jk (t.get c)):=if_pos ⟨hc.1,hc.2,hR,hl⟩;obtain⟨q1,q2,q3,q4,q5,q6⟩:=sZ (t.get c)
 have g2:Good (fJ t c) O:=by
  rw[e];refine g.set hc fun y hy e2 k=>?_
  rcases k with ⟨a,k⟩|⟨a,k1,k2⟩
  ·refine .inl ⟨a,?_⟩
   rw[e2] at k ⊢;rw[bU hc,q2,q3];exact k
  ·refine .inr ⟨a,?_⟩
   rw[e2] at k1 k2 ⊢;rw[bU hc,q2,q3];refine⟨k1,?_⟩
   rcases k2 with ⟨k2,k3,k4⟩|⟨_,k3,_⟩
   ·exact .inl ⟨k2,q4,by rw[q5 k3];exact k4⟩
   ·rw[hl] at k3;cases k3
 by_cases hd:(t.get c).dn=true
 ·rw[if_pos hd,List.append_nil];exact g2
 ·rw[if_neg hd]
  refine g2.add ⟨hc,?_,.inl ⟨?_,?_,?_⟩⟩<;>(show _=_;rw[e];show _=_;rw[show(rf t c).c=c from rfl,bU hc])
  ·exact q2.symm
  ·exact q3.symm
  ·exact q4
  ·exact(q6 (Bool.eq_false_iff.2 hd)).symm
theorem Good.open_(g:Good t O)(hl:aH.look t r=1)(h0:r.r=0):Good (jB t r) (O++[⟨r,oH t r⟩]):=by
 obtain⟨hk,hR,hs⟩:=jS hl;have hc:=kV hk;have e:jB t r=t.set r.c (nJ t r):=if_pos ⟨hl,h0⟩;have eP:oH t r=(nJ t r).p:=if_pos ⟨hl,h0⟩
 have q:(nJ t r).ep=r.e∧(nJ t r).rq=0∧(nJ t r).dn=true:=by
  unfold nJ
  split<;>exact⟨rfl,rfl,rfl⟩
 have hep:(t.get r.c).ep<r.e:=by
  rcases wN hs with k|⟨_,k,_,_⟩
  ·exact k.2
  ·exfalso
   have h1:=kZ hR hc;by_cases he:(t.get r.c).ep=0
   ·have h2:=wD h1 he
    rw[h2] at k;have:r.r=0+1:=k;omega
   ·have:=(one_pos h1 he).2.2.1
    omega
 have g2:Good (jB t r) O:=by
  rw[e];refine g.set hc fun y hy e2 k=>.inl ?_
  rcases k with ⟨a,k⟩|⟨a,k1,k2⟩
  ·refine⟨a,.inl ?_⟩
   rw[e2] at k ⊢;rw[bU hc,q.1];omega
  ·refine⟨a,.inl ?_⟩
   rw[e2] at k1 ⊢;rw[bU hc,q.1];omega
 refine g2.add ⟨hc,?_,.inl ⟨?_,?_,?_⟩⟩<;>(show _=_;rw[e,bU hc])
 ·exact q.1.symm
 ·rw[q.2.1];exact h0
 ·exact q.2.2
 ·exact eP
theorem Good.ends{W P H:List Rf}:∀{Y:List Ot} {t:T} {O:List Ot},J t W (Y.map (·.r)++P) H→Good t O→(∀y∈Y,rep y.p=true)→Good (Ap.ends t (dP Y)) (O++Y)
 | [],t,O,_,g,_=>by rw[List.append_nil];exact g
 | y::m,t,O,j,g,h=>by
  have hl:aH.look t y.r=3:=j.w y.r (List.mem_append.2 (.inr (List.mem_cons_self ..)));have hy:=h y (List.mem_cons_self ..);have:=Good.ends (Y:=m) (j.end_ hy) (g.end_ hl hy) fun z hz=>h z (List.mem_cons_of_mem _ hz)
  exact LH
theorem vH{s:St}(h:Ok s)(hc:0≤c∧c<5)(hl:(s.t.get c).live=true)(g:Good s.t O):Good (dX s c).t (O++eZ s c):=by
 obtain⟨j,_⟩:=EP h hc hl;have:=Good.ends (P:=[]) (by rw[List.append_nil];exact j) (g.close h.t hc hl) (IC s.l);exact LH
theorem Py{s:St}(h:Ok s)(hl:aH.look s.t r=1)(h0:r.r=0)(g:Good s.t O):Good (jN s r).t (O++nK s r):=by
 have hc:=nN hl (by decide)
 have g2:Good (left s r.c).t (O++if (s.t.get r.c).live=true then eZ s r.c else []):=by
  unfold left;by_cases hv:(s.t.get r.c).live=true
  ·rw[if_pos hv,if_pos hv];exact vH h hc hv g
  ·rw[if_neg hv,if_neg hv,List.append_nil];exact g
 refine(g2.open_ (PS h hl h0) h0).sub fun y hy=>?_
 unfold nK at hy;simp only[List.mem_append,List.mem_cons,List.not_mem_nil,or_false] at hy ⊢
 rcases hy with hy|hy|hy
 ·exact .inl (.inl hy)
 ·exact .inr hy
 ·exact .inl (.inr hy)
theorem KW{s:St}(h:Ok s)(hl:aH.look s.t r=1)(h0:¬r.r=0)(k:aF.C)(g:Good s.t O):Good (gB s r k).t (O++jE s r k):=by
 have hc:=nN hl (by decide);have hlive:=(kr hl h0).2.2.2.2.1;have gt:Good (touch s r).t (O++[⟨r,rz⟩]):=(g.beg hl h0).end_ (BH hl h0) uJ;unfold gB jE;by_cases h3:k.k=3
 ·rw[if_pos h3,if_pos h3];exact gt
 rw[if_neg h3,if_neg h3];by_cases h2:k.k=2
 ·rw[if_pos h2,if_pos h2]
  have e:((touch s r).t.get r.c).live=true:=by
   show((fP (iq s.t r) r rz).get r.c).live=true
   rw[xJ hl h0 uJ];exact hlive
  have:=vH (Af h hl h0) hc e gt;exact LH
 rw[if_neg h2,if_neg h2];by_cases hla:(iC s.l r k).later=true
 ·rw[if_pos hla,if_pos hla,List.append_nil]
  exact g.beg hl h0
 rw[if_neg hla,if_neg hla];obtain⟨d1,d2⟩:=Ns s.l r k;have j:=h.j.begin hl h0;obtain⟨a,_⟩:=(DJ h.l r k).1 (Bool.eq_false_iff.2 hla)
 have j2:J (iq s.t r) (W (iC s.l r k).l) (r::(iC s.l r k).outs.map (·.r)) []:=by
  refine j.perm ?_ fun x hx=>by cases hx
  refine List.Perm.trans List.perm_middle ?_;exact ZH
 have:=Good.ends (P:=[]) (by rw[List.append_nil];exact j2.end_ d1) ((g.beg hl h0).end_ (BH hl h0) d1) d2;exact LH
theorem Yt{s:St}(h:Ok s){e:aF.E}(he:aF.fits e)(g:Good s.t O):Good (sU s e).t (O++uO s e):=by
 have hk:=lX he;have hc:0≤e.c∧e.c<5:=kV hk;by_cases h18:e.cmd.k=18
 ·rw[(Ic h18).1,(Ic h18).2]
  by_cases q:(s.t.get e.c).live=true∧(s.t.get e.c).ep=e.e
  ·rw[if_pos q,if_pos q];exact vH h hc q.1 g
  ·rw[if_neg q,if_neg q,List.append_nil];exact g
 by_cases h1:aH.look s.t (ref e)=1
 ·rw[(Yu h18 h1).1,(Yu h18 h1).2]
  by_cases h0:e.r=0
  ·rw[if_pos h0,if_pos h0];exact Py h h1 h0 g
  ·rw[if_neg h0,if_neg h0];exact KW h h1 h0 e.cmd g
 rw[(afL h18 h1).1];unfold uO;rw[if_neg h18,if_neg h1];by_cases h2:aH.look s.t (ref e)=2
 ·rw[if_pos h2]
  obtain⟨_,_,hs⟩:=jS h2;have hd:e.e=(s.t.get e.c).ep∧e.r=(s.t.get e.c).rq∧(s.t.get e.c).dn=true:=TY hs;exact g.add ⟨hc,hd.1,.inl ⟨hd.2.1,hd.2.2,rfl⟩⟩
 rw[if_neg h2];by_cases h4:aH.look s.t (ref e)=4
 ·rw[if_pos h4]
  obtain⟨_,_,hs⟩:=jS h4;have hd:e.e=(s.t.get e.c).ep∧(s.t.get e.c).rq<e.r∧(s.t.get e.c).live=false:=TW hs;exact g.add ⟨hc,hd.1,.inr ⟨hd.2.1,hd.2.2,rfl⟩⟩
 ·rw[if_neg h4,List.append_nil];exact g
theorem YQ{s:St}(h:Ok s)(e:aF.E)(g:Good s.t O):Good (mD s e).t (O++rV s e):=by
 by_cases hc:Can s e
 ·rw[(VY hc).1,(VY hc).2]
  exact Yt h hc.2.1 g
 ·rw[(yB hc).1,(yB hc).2,List.append_nil]
  exact g
end
def all(s:St):List aF.E→St×List Ot
 | []=>(s,[])
 | e::m=>((all (mD s e) m).1,rV s e++(all (mD s e) m).2)
def s0:St:=⟨0,[],t0⟩
theorem acr:Ok s0:=by decide
end Ap
end
section
def cO(k:Int)(name key:ByteArray)(vk vn:Int)(vf:Nat)(vs:ByteArray)(ok on:Int)(of:Nat)(os:ByteArray)(n m:Int):Array Value:=
 #[.int .i64 k,.string name,.string key,.int .i64 vk,.int .i64 vn,.int .u64 (vf:Int),.string vs,.int .i64 ok,.int .i64 on,.int .u64 (of:Int),.string os,.int .i64 n,.int .i64 m]
def dh(c:aF.C):Array Value:=cO c.k c.name c.key c.val.k c.val.n c.val.f c.val.s c.old.k c.old.n c.old.f c.old.s c.n c.m
def fl(b0 b1 b2 b3 b4 b5:Bool):Array Value:=#[.bool b0,.bool b1,.bool b2,.bool b3,.bool b4,.bool b5]
theorem um:(prog.info? 159).map (·.size)=some 6:=by kernel_rfl
theorem MO:(prog.info? 37).map (·.size)=some 13:=by kernel_rfl
section
variable {b0:Nat}{w0 w:World}{L:List (Nat×TypeId×Array Value)}{R:List dA}{ops:Array Oper}{rest:List Oper}{o:Oper}{a:Act}{Q:Exit→Act→World→Prop}
theorem jD(HK:Hid (Kn b0 w0 w L R))(i:Nat){x:Operand}{g off:Nat}{t:TypeId}{cs:Array Value}{n:Int}(ho:o.op=.load 3 x:=by rfl)(hL:L[i]?=some (g,t,cs):=by rfl)(hx:a.eval x=.pointer (some ⟨g,off,none⟩):=by rfl)(hv:cs[off]?=some (.int .i64 n):=by rfl):
  (execOp a.eval o).run prog w=.ok (.value (.int .i64 n)) w:=aV HK _ x ho i hL hx (hv:=hv) underlying3
theorem Hl(HK:Hid (Kn b0 w0 w L R))(i:Nat){x:Operand}{g off:Nat}{t:TypeId}{cs:Array Value}{s:ByteArray}(ho:o.op=.load 9 x:=by rfl)(hL:L[i]?=some (g,t,cs):=by rfl)(hx:a.eval x=.pointer (some ⟨g,off,none⟩):=by rfl)(hv:cs[off]?=some (.string s):=by rfl):
  (execOp a.eval o).run prog w=.ok (.value (.string s)) w:=aV HK _ x ho i hL hx (hv:=hv) underlying9
end
def Jj(b0 b1 b2 b3 b4 b5:Bool)(w:World)(e:Ending)(w':World):Prop:=e=.returned (.agg (fl b0 b1 b2 b3 b4 b5))∧Below w.heap.size w w'
theorem Kt{f:Func}{R:Ending→World→Prop}{a:Act}{w:World}{B:Nat}{b0 b1 b2 b3 b4 b5:Bool}{q:Tmp}(hf:f.results=#[.cell q 159])(hb:gD w B 159 (fl b0 b1 b2 b3 b4 b5))
  (hR:R (.returned (.agg (fl b0 b1 b2 b3 b4 b5))) w) (h2:a.tmps[q]?=some (.pointer (some ⟨B,0,none⟩)):=by rfl)(hd:a.defers=[]:=by rfl):bodyPost prog f R Exit.ret a w:=
 bodyPost_ret (results_cell_row hf a.tmps w B _ _ (0,0) _ (by simp[h2]) hb underlying159 rfl um) hd hR
theorem isF{k:Int}{b0 b1 b2 b3 b4 b5:Bool}{w:World}{e:Ending}{w':World}(h:Jj b0 b1 b2 b3 b4 b5 w e w')(e0:aF.f0 k=b0)(e1:aF.f1 k=b1)(e2:aF.f2 k=b2)(e3:aF.f3 k=b3)(e4:aF.f4 k=b4)(e5:aF.f5 k=b5):Jj (aF.f0 k) (aF.f1 k) (aF.f2 k) (aF.f3 k) (aF.f4 k) (aF.f5 k) w e w':=by
 rw[e0,e1,e2,e3,e4,e5];exact h
end
section
namespace aF
def sized(n m:Int):Prop:=if n=2 then 1≤m∧m≤8 else if n=4 then 1≤m∧m≤5 else 1≤n∧n≤5∧m=0
instance (n m:Int):Decidable (sized n m):=by unfold sized;infer_instance
def cN(c:C):Int:=if c.k<1∨18<c.k∨¬others c∨(f0 c.k=true∧c.name.size=0) then 1 else 0
def cL(c:C):Int:=if 16<c.name.size∨64<c.key.size then 2 else 0
def cV(c:C):Int:=if (c.k=7∨c.k=10)∧c.val.k=0 then 1 else if c.k=15∧c.val.k≠2 then 7 else 0
def cM(c:C):Int:=if ¬nums c then 1 else 0
def nz:List Int→Int
 | []=>0
 | x::r=>if x≠0 then x else nz r
theorem adh(c:C):nz [cN c,cL c,Val.bG c.old,Val.bG c.val,cV c,cM c]=bG c:=by
 unfold bG cN cL cV cM;simp only[nz]
 split<;>rename_i h1
 ·rw[if_pos (by decide)]
 ·rw[if_neg (by decide)]
  split<;>rename_i h2
  ·rw[if_pos (by decide)]
  ·rw[if_neg (by decide)]
   split<;>rename_i h3
   ·rfl
   ·split<;>rename_i h4
    ·rfl
    ·split<;>rename_i h5
     ·rw[if_pos (by decide)]
     ·split<;>rename_i h6
      ·rw[if_pos (by decide)]
      ·rw[if_neg (by decide)]
       split<;>rename_i h7
       ·rw[if_pos (by decide)]
       ·rw[if_neg (by decide)]
end aF
theorem Ae(a b c:Int)(w:World):Calls prog 183 #[.int .i64 a,.int .i64 b,.int .i64 c] w fun e w'=>e=.returned (.bool (decide (b≤a∧a≤c)))∧w'=w:=by
 have HE:Hid (∀q:Bool,(q=true↔(b≤a∧a≤c))→q=decide (b≤a∧a≤c)):=zH fun q hq=>by
  rw[Bool.eq_iff_iff,hq,decide_eq_true_eq]
 generalize decide (b≤a∧a≤c)=r at *
 go_enter func183,ntmps183;go_wp2_with fail
 all_goals
  go_ret;refine⟨congrArg (fun b=>Ending.returned (.bool b)) (HE.out _ ?_),rfl⟩;clear HE
  simp_all<;>omega
theorem OA(n m:Int)(w:World):Calls prog 182 #[.int .i64 n,.int .i64 m] w fun e w'=>e=.returned (.bool (decide (aF.sized n m)))∧w'=w:=by
 have HE:Hid (∀q:Bool,(q=true↔aF.sized n m)→q=decide (aF.sized n m)):=zH fun q hq=>by
  rw[Bool.eq_iff_iff,hq,decide_eq_true_eq]
 have HW:=zH Ae;generalize decide (aF.sized n m)=r at *
 by_cases h2:n=2
 ·subst h2
  exact aen
 by_cases h4:n=4
 ·subst h4
  exact aen
 ·go_enter func182,ntmps182
  go_wp2_with fail
  all_goals
   go_ret;refine⟨congrArg (fun b=>Ending.returned (.bool b)) (HE.out _ ?_),rfl⟩;clear HE HW;unfold aF.sized
   simp_all<;>omega
theorem Qp(c:aF.C)(w:World):Calls prog 118 #[.agg (dh c)] w fun en w'=>en=.returned (.int .i64 (aF.cM c))∧Below w.heap.size w w':=by
 have HS:=zH (fun W=>OA c.n c.m W);have HW:=zH (fun W=>Ae c.n 0 3 W);have HE:Hid (∀x:Int,aF.cM c=x→∀(en:Ending) (w':World),(en=.returned (.int .i64 x)∧Below w.heap.size w w')→(en=.returned (.int .i64 (aF.cM c))∧Below w.heap.size w w')):=zH fun x hx en w' h=>by rw[hx];exact h
 have hm:aF.cM c=if c.k=16 then (if 0≤c.n∧c.n≤3 then 0 else 1) else if c.k≠4 then 0 else if aF.sized c.n c.m then 0 else 1:=by
  unfold aF.cM aF.nums aF.sized
  repeat' split
  all_goals simp_all
 generalize aF.cM c=z at *
 obtain⟨k,name,key,val,old,n,m⟩:=c;unfold dh;simp only at HE HS HW hm ⊢;have HK:=iK w 37 (cO k name key val.k val.n val.f val.s old.k old.n old.f old.s n m);have p0:(cO k name key val.k val.n val.f val.s old.k old.n old.f old.s n m)[0]?=some (.int .i64 k):=rfl;have FR:(cO k name key val.k val.n val.f val.s old.k old.n old.f old.s n m)[11]?=some (.int .i64 n):=rfl;have FQ:(cO k name key val.k val.n val.f val.s old.k old.n old.f old.s n m)[12]?=some (.int .i64 m):=rfl;by_cases h16:k=16
 ·subst h16
  rw[if_pos rfl] at hm;generalize hd:decide ((0:Int)≤n∧n≤3)=d at *
  have HD:=zH hd;have HM:=zH hm;clear hd hm;generalize cO 16 name key val.k val.n val.f val.s old.k old.n old.f old.s n m=pa at *
  cases d
  all_goals
   go_enter func118,ntmps118;go_wp2_with fail;refine(HW.out _).mono ?_;rintro e w1 ⟨rfl,rfl⟩;go_wp2_with fail;go_ret;refine HE.out _ ?_ _ _ ⟨rfl,HK.out.b⟩;have hd:=HD.out;rw[HM.out];simp at hd
   first|rw[if_pos (by omega)]|rw[if_neg (by omega)]
 ·rw[if_neg h16] at hm
  by_cases h4:k=4
  ·subst h4
   rw[if_neg (by decide)] at hm;generalize hd:decide (aF.sized n m)=d at *
   have HD:=zH hd;have HM:=zH hm;clear hd hm;generalize cO 4 name key val.k val.n val.f val.s old.k old.n old.f old.s n m=pa at *
   cases d
   all_goals
    go_enter func118,ntmps118;go_wp2_with fail;refine(HS.out _).mono ?_;rintro e w1 ⟨rfl,rfl⟩;go_wp2_with fail;go_ret;refine HE.out _ ?_ _ _ ⟨rfl,HK.out.b⟩;have hd:=HD.out;rw[HM.out];simp at hd
    first|rw[if_pos hd]|rw[if_neg hd]
  ·rw[if_pos h4] at hm
   subst hm;generalize cO k name key val.k val.n val.f val.s old.k old.n old.f old.s n m=pa at *
   go_enter func118,ntmps118;go_wp2_with fail;go_ret;exact HE.out _ rfl _ _ ⟨rfl,HK.out.b⟩
theorem Vs(c:aF.C)(w:World):Calls prog 117 #[.agg (dh c)] w fun en w'=>en=.returned (.int .i64 (aF.cV c))∧Below w.heap.size w w':=by
 have HE:Hid (∀x:Int,x=aF.cV c→∀(en:Ending) (w':World),(en=.returned (.int .i64 x)∧Below w.heap.size w w')→(en=.returned (.int .i64 (aF.cV c))∧Below w.heap.size w w')):=zH fun x hx en w' h=>by rw[← hx];exact h
 have hm:aF.cV c=if (c.k=7∨c.k=10)∧c.val.k=0 then 1 else if c.k=15∧c.val.k≠2 then 7 else 0:=rfl;generalize aF.cV c=z at *
 obtain⟨k,name,key,⟨vk,vn,vf,vs⟩,old,n,m⟩:=c;unfold dh;simp only at HE hm ⊢;have HK:=iK w 37 (cO k name key vk vn vf vs old.k old.n old.f old.s n m);have p0:(cO k name key vk vn vf vs old.k old.n old.f old.s n m)[0]?=some (.int .i64 k):=rfl;have p3:(cO k name key vk vn vf vs old.k old.n old.f old.s n m)[3]?=some (.int .i64 vk):=rfl;generalize cO k name key vk vn vf vs old.k old.n old.f old.s n m=pa at *
 have HM:=zH hm;clear hm;go_enter func117,ntmps117;go_wp2_with fail
 all_goals
  go_ret;refine HE.out _ ?_ _ _ ⟨rfl,HK.out.b⟩;have hm:=HM.out;clear HE HK HM p0 p3
  simp_all<;>omega
theorem Vy(c:aF.C)(w:World):Calls prog 115 #[.agg (dh c)] w fun en w'=>en=.returned (.int .i64 (aF.cL c))∧Below w.heap.size w w':=by
 have HE:Hid (∀x:Int,x=aF.cL c→∀(en:Ending) (w':World),(en=.returned (.int .i64 x)∧Below w.heap.size w w')→(en=.returned (.int .i64 (aF.cL c))∧Below w.heap.size w w')):=zH fun x hx en w' h=>by rw[← hx];exact h
 have hm:aF.cL c=if 16<(c.name.size:Int)∨64<(c.key.size:Int) then 2 else 0:=by
  unfold aF.cL
  split
  ·rw[if_pos (by omega)]
  ·rw[if_neg (by omega)]
 generalize aF.cL c=z at *
 obtain⟨k,name,key,val,old,n,m⟩:=c;unfold dh;simp only at HE hm ⊢;have HK:=iK w 37 (cO k name key val.k val.n val.f val.s old.k old.n old.f old.s n m);have p1:(cO k name key val.k val.n val.f val.s old.k old.n old.f old.s n m)[1]?=some (.string name):=rfl;have p2:(cO k name key val.k val.n val.f val.s old.k old.n old.f old.s n m)[2]?=some (.string key):=rfl;generalize cO k name key val.k val.n val.f val.s old.k old.n old.f old.s n m=pa at *
 have HM:=zH hm;clear hm;go_enter func115,ntmps115;go_wp2_with fail
 all_goals
  go_ret;refine HE.out _ ?_ _ _ ⟨rfl,HK.out.b⟩;have hm:=HM.out;clear HE HK HM p1 p2
  simp_all<;>omega
def WT(b0 b1 b2 b3 b4 b5 ok:Bool)(w:World)(e:Ending)(w':World):Prop:=e=.returned (.tuple #[.agg (fl b0 b1 b2 b3 b4 b5),.bool ok])∧Below w.heap.size w w'
theorem Mc{f:Func}{R:Ending→World→Prop}{a:Act}{w:World}{B:Nat}{b0 b1 b2 b3 b4 b5:Bool}{u:Value}{k q:Tmp}(hf:f.results=#[.cell k 159,.tmp q])
  (hb:gD w B 159 (fl b0 b1 b2 b3 b4 b5)) (hR:R (.returned (.tuple #[.agg (fl b0 b1 b2 b3 b4 b5),u])) w) (h2:a.tmps[k]?=some (.pointer (some ⟨B,0,none⟩)):=by rfl)(h4:a.tmps[q]?=some u:=by rfl)(hd:a.defers=[]:=by rfl):bodyPost prog f R Exit.ret a w:=by
 refine bodyPost_ret (v:=.tuple #[.agg (fl b0 b1 b2 b3 b4 b5),u]) ?_ hd hR;have h:=run_loadVar_row (P:=prog) w B _ _ _ (0,0) _ hb underlying159 rfl um;simp[results,hf,asAddr,Sem.run_bind,h2,h4,h]
theorem isN{k:Int}{b0 b1 b2 b3 b4 b5 ok:Bool}{w:World}{e:Ending}{w':World}(h:WT b0 b1 b2 b3 b4 b5 ok w e w')(e0:aF.f0 k=b0)(e1:aF.f1 k=b1)(e2:aF.f3 k=b2)(e3:aF.f2 k=b3)(e4:aF.f4 k=b4)(e5:aF.f5 k=b5)(e6:decide (1≤k∧k≤18)=ok):WT (aF.f0 k) (aF.f1 k) (aF.f3 k) (aF.f2 k) (aF.f4 k) (aF.f5 k) (decide (1≤k∧k≤18)) w e w':=by
 rw[e0,e1,e2,e3,e4,e5,e6];exact h
theorem Li(k:Int)(w:World):Calls prog 178 #[.int .i64 k] w (WT (aF.f0 k) (aF.f1 k) (aF.f3 k) (aF.f2 k) (aF.f4 k) (aF.f5 k) (decide (1≤k∧k≤18)) w):=by
 have hk:(k=1∨k=2∨k=3∨k=18)∨(k=4∨k=5∨k=6∨k=7∨k=8∨k=9∨k=10∨k=11∨k=12∨k=13∨k=14∨k=15∨k=16∨k=17)∨(k<1∨18<k):=by omega
 rcases hk with (rfl|rfl|rfl|rfl)|(rfl|rfl|rfl|rfl|rfl|rfl|rfl|rfl|rfl|rfl|rfl|rfl|rfl|rfl)|h
 case inr.inr=>
  obtain⟨e0,e1,e2,e3,e4,e5⟩:=aF.vL (k:=k) (by omega);have e6:decide (1≤k∧k≤18)=false:=by simp;omega
  have n1:¬k=1:=by omega
  have n2:¬k=2:=by omega
  have n3:¬k=3:=by omega
  have n4:¬k=4:=by omega
  have n5:¬k=5:=by omega
  have n6:¬k=6:=by omega
  have n7:¬k=7:=by omega
  have n8:¬k=8:=by omega
  have n9:¬k=9:=by omega
  have n10:¬k=10:=by omega
  have n11:¬k=11:=by omega
  have n12:¬k=12:=by omega
  have n13:¬k=13:=by omega
  have n14:¬k=14:=by omega
  have n15:¬k=15:=by omega
  have n16:¬k=16:=by omega
  have n17:¬k=17:=by omega
  have n18:¬k=18:=by omega
  refine Calls.mono (R:=WT false false false false false false false w) ?_ fun e w' h=>isN h e0 e1 e3 e2 e4 e5 e6
  clear h e0 e1 e2 e3 e4 e5 e6;exact aag
 all_goals
  exact aag
end
section
theorem qN(v:Val.V):aF.nil v↔(v.k=0∧v.n=0∧v.f=0∧v.s.toList=[]):=by
 unfold aF.nil
 constructor
 ·rintro ⟨h1,h2,h3,h4⟩
  rw[aF.Aj h4];exact⟨h1,h2,h3,by rw[ByteArray.toList_eq];rfl⟩
 ·rintro ⟨h1,h2,h3,h4⟩
  refine⟨h1,h2,h3,?_⟩;rw[ByteArray.toList_eq] at h4;have:=congrArg List.length h4
  simpa using this
end
section
theorem Hr:(prog.info? 26).map (·.size)=some 4:=by kernel_rfl
section
variable {b0:Nat}{w0 w:World}{L:List (Nat×TypeId×Array Value)}{R:List dA}{ops:Array Oper}{rest:List Oper}{o:Oper}{a:Act}{Q:Exit→Act→World→Prop}
theorem Hf(HK:Hid (Kn b0 w0 w L R))(i:Nat){x:Operand}{g:Nat}{t:TypeId}{k:Int}{name key:ByteArray}{vk vn:Int}{vf:Nat}{vs:ByteArray}{ok on:Int}{of:Nat}{os:ByteArray}{n m:Int}(ho:o.op=.load 26 x:=by rfl)(hL:L[i]?=some (g,t,cO k name key vk vn vf vs ok on of os n m):=by rfl)(hx:a.eval x=.pointer (some ⟨g,3,none⟩):=by rfl):
  (execOp a.eval o).run prog w=.ok (.value (.agg #[.int .i64 vk,.int .i64 vn,.int .u64 (vf:Int),.string vs])) w:=
 dU HK x ho i hL hx #[.int .i64 vk,.int .i64 vn,.int .u64 (vf:Int),.string vs] (fun j hj=>by
  match j,hj with
  | 0,_|1,_|2,_|3,_=>rfl) underlying26 Hr
theorem Hg(HK:Hid (Kn b0 w0 w L R))(i:Nat){x:Operand}{g:Nat}{t:TypeId}{k:Int}{name key:ByteArray}{vk vn:Int}{vf:Nat}{vs:ByteArray}{ok on:Int}{of:Nat}{os:ByteArray}{n m:Int}(ho:o.op=.load 26 x:=by rfl)(hL:L[i]?=some (g,t,cO k name key vk vn vf vs ok on of os n m):=by rfl)(hx:a.eval x=.pointer (some ⟨g,7,none⟩):=by rfl):
  (execOp a.eval o).run prog w=.ok (.value (.agg #[.int .i64 ok,.int .i64 on,.int .u64 (of:Int),.string os])) w:=
 dU HK x ho i hL hx #[.int .i64 ok,.int .i64 on,.int .u64 (of:Int),.string os] (fun j hj=>by
  match j,hj with
  | 0,_|1,_|2,_|3,_=>rfl) underlying26 Hr
theorem sP(HK:Hid (Kn b0 w0 w L R))(i:Nat){x:Operand}{g:Nat}{t:TypeId}{k:Int}{name key:ByteArray}{vk vn:Int}{vf:Nat}{vs:ByteArray}{ok on:Int}{of:Nat}{os:ByteArray}{n m:Int}(ho:o.op=.load 37 x:=by rfl)(hL:L[i]?=some (g,t,cO k name key vk vn vf vs ok on of os n m):=by rfl)(hx:a.eval x=.pointer (some ⟨g,0,none⟩):=by rfl):
  (execOp a.eval o).run prog w=.ok (.value (.agg (cO k name key vk vn vf vs ok on of os n m))) w:=
 dU HK x ho i hL hx (cO k name key vk vn vf vs ok on of os n m) (fun j _=>by rw[Nat.zero_add]) underlying37 MO
end
def adA(c:aF.C)(w:World)(e:Ending)(w':World):Prop:=∃b0 b1 b2 b3 b4 b5,e=.returned (.agg (fl b0 b1 b2 b3 b4 b5))∧((b0=false↔c.name.size=0)∧(b1=false↔c.key.size=0)∧(b2=false↔aF.nil c.val)∧(b3=false↔aF.nil c.old)∧(b4=false↔c.n=0)∧(b5=false↔c.m=0))∧Below w.heap.size w w'
theorem Vl{s:ByteArray}:s.size=0↔s.toList=[]:=by
 constructor
 ·intro h
  rw[aF.Aj h,ByteArray.toList_eq];rfl
 ·intro h
  rw[ByteArray.toList_eq] at h;have:=congrArg List.length h
  simpa using this
theorem IV(c:aF.C)(w:World):Calls prog 179 #[.agg (dh c)] w (adA c w):=by
 obtain⟨k,name,key,⟨vk,vn,vf,vs⟩,⟨ok,on,of,os⟩,n,m⟩:=c;unfold dh adA;simp only[qN,Vl];have HK:=kX w 37 (cO k name key vk vn vf vs ok on of os n m) 159 (fl false false false false false false);go_enter func179,ntmps179;go_wp2_with fail;replace HK:=zH HK.out.drew;refine zR (HK.out.aA 1) fun ah=>?_
 refine ak 0 rfl ?_;refine ak 1 rfl ?_ fun _ s=>Hl s 0
 refine ak 2 rfl ?_;refine ak 3 rfl ?_;refine ak 4 rfl ?_ fun _ s=>Hl s 0
 refine ak 5 rfl ?_;refine ak 6 rfl ?_;refine ak 7 rfl ?_ fun _ s=>Hf s 0
 refine ak 8 rfl ?_;refine ak 9 rfl ?_ (fun w Jr=>(show _=Result.ok (Next.value (Value.bool (!(decide (vk=0)&&decide (vn=0)&&decide (vf=0)&&decide (vs.toList=[]))))) w from by go_simp;by_cases h1:vk=0<;>by_cases h2:vn=0<;>by_cases h3:vf=0<;>by_cases h4:vs.toList=[]<;>simp[h1,h2,h3,h4]));refine ak 10 rfl ?_;refine ak 11 rfl ?_ fun _ s=>Hg s 0
 refine ak 12 rfl ?_;refine ak 13 rfl ?_ (fun w Jr=>(show _=Result.ok (Next.value (Value.bool (!(decide (ok=0)&&decide (on=0)&&decide (of=0)&&decide (os.toList=[]))))) w from by go_simp;by_cases h1:ok=0<;>by_cases h2:on=0<;>by_cases h3:of=0<;>by_cases h4:os.toList=[]<;>simp[h1,h2,h3,h4]));refine ak 14 rfl ?_;refine ak 15 rfl ?_ fun _ s=>jD s 0
 refine ak 16 rfl ?_;refine ak 17 rfl ?_;refine ak 18 rfl ?_ fun _ s=>jD s 0
 refine ak 19 rfl ?_;refine ak 20 rfl ?_;refine aC 21 rfl fun K hK=>?_
 refine zu HK 1 (by rfl) _ _ (by rfl) (by rfl) (by rfl) (by rfl) um ?_;clear HK;intro _ HK _;simp only[lS] at HK;have hs:=zH (HK.out.aA 1);refine bk hK hs fun ah=>?_
 clear hK K;refine bW ?_;go_wp2_with fail;refine Kt results179 (HK.out.blk 1 rfl) ⟨_,_,_,_,_,_,rfl,?_,HK.out.b⟩;clear HK ah;refine⟨?_,?_,?_,?_,?_,?_⟩<;>simp[and_assoc]
end
section
theorem Ka(s:ByteArray)(w:World):Calls prog 78 #[.string s] w (cZ (decide (av.named s)) w):=by
 unfold cZ;by_cases h:s.size=0
 ·have h1:s.toList=[]:=Vl.1 h
  have hd:decide (av.named s)=false:=decide_eq_false fun g=>g.1 h
  rw[hd];clear hd h;go_enter func78,ntmps78;exact abg
 ·have h1:¬s.toList=[]:=fun g=>h (Vl.2 g)
  by_cases h2:s.size≤16
  ·have hd:decide (av.named s)=true:=decide_eq_true ⟨h,h2⟩
   exact ZW
  ·have hd:decide (av.named s)=false:=decide_eq_false fun g=>h2 g.2
   exact ZW
theorem Ql{k z:Int}(h:¬(5≤k∧k≤17)):av.fits k z=false:=by
 unfold av.fits;rw[if_neg (by omega),if_neg (by omega),if_neg (by omega),if_neg (by omega),if_neg (by omega),if_neg (by omega)]
theorem OC(k z:Int)(w:World):Calls prog 256 #[.int .i64 k,.int .i64 z] w (cZ (av.fits k z) w):=by
 unfold cZ;have hk:k=5∨k=17∨k=6∨k=7∨k=8∨k=9∨k=10∨k=11∨k=12∨k=13∨k=14∨k=15∨k=16∨¬(5≤k∧k≤17):=by omega
 rcases hk with rfl|rfl|rfl|rfl|rfl|rfl|rfl|rfl|rfl|rfl|rfl|rfl|rfl|h
 case inr.inr.inr.inr.inr.inr.inr.inr.inr.inr.inr.inr.inr=>
  rw[Ql h];have n5:¬k=5:=by omega
  have n6:¬k=6:=by omega
  have n7:¬k=7:=by omega
  have n8:¬k=8:=by omega
  have n9:¬k=9:=by omega
  have n10:¬k=10:=by omega
  have n11:¬k=11:=by omega
  have n12:¬k=12:=by omega
  have n13:¬k=13:=by omega
  have n14:¬k=14:=by omega
  have n15:¬k=15:=by omega
  have n16:¬k=16:=by omega
  have n17:¬k=17:=by omega
  clear h;go_enter func256,ntmps256;exact abg
 all_goals
  unfold av.fits;simp only[reduceCtorEq,Int.reduceEq,or_true,true_or,or_false,false_or,if_true,if_false];go_enter func256,ntmps256;exact abg
theorem yJ(n:Int)(w:World):Calls prog 243 #[.int .i64 n] w (fun e w'=>e=.returned (.agg #[.int .i64 1,.int .i64 n,.int .u64 ((0:Nat):Int),.string ⟨#[]⟩])∧Below w.heap.size w w'):=by
 have HK:=iK w 26 (vC 0 0 0 ⟨#[]⟩);go_enter func243,ntmps243;go_wp2_with (refine aM (f2:=0) HK 0 ?_;clear HK;intro _ HK;simp only[lS] at HK);exact aeZ results243 rfl rfl (HK.out.blk 0 rfl) ⟨rfl,HK.out.b⟩
def Lu(l:List av.Ot)(w:World)(e:Ending)(w':World):Prop:=∃A n c,e=.returned (.slice A n c)∧(∀(b0:Nat) (w0:World) L R,Kn b0 w0 w L R→Kn b0 w0 w' L (R++[row aR (.slice A n c) l]))∧Below w.heap.size w w'
theorem CO(y:Rf)(h:Bool)(w:World):Calls prog 186 #[.agg #[.int .i64 y.c,.int .i64 y.e,.int .i64 y.r],.bool h] w (Lu (av.held y h) w):=by
 have HK:=iK w 35 #[.int .i64 y.c,.int .i64 y.e,.int .i64 y.r];cases h
 ·show Calls _ _ _ _ (Lu [] w)
  unfold Lu;go_enter func186,ntmps186;go_wp2_with fail;go_ret;exact⟨_,_,_,rfl,fun b0 w0 L R h=>((h.call HK.out.b).wE aR),HK.out.b⟩
 ·show Calls _ _ _ _ (Lu [⟨y,av.rz⟩] w)
  unfold Lu;go_enter func186,ntmps186;go_wp2_with (first|refine zX (aB HK 0) ?_|refine zX (qw (r:=y)) ?_|(refine dI aR (p:=⟨y,av.rz⟩) HK ?_;clear HK;intro w2 g5 HK;simp only[aO,aJ] at HK));go_ret;exact⟨_,_,_,rfl,fun b0 w0 L R h=>h.called HK.out.b (HK.out.own 0 rfl),HK.out.b⟩
theorem wZ(A B:Option Addr)(n c m d:Nat)(k:Bool)(w:World)(hk:k=decide (0<m)):
  Calls prog 230 #[.slice A n c,.slice B m d] w (fun e w'=>e=.returned (.int .i64 (if k=true then 8 else if n=8 then 6 else 0))∧Below w.heap.size w w'):=by
 subst hk;by_cases h:0<m
 ·rw[if_pos (decide_eq_true h)]
  exact abh
 ·rw[if_neg (by simpa using h)]
  by_cases h2:n=8
  ·subst h2
   rw[if_pos rfl];exact abh
  ·rw[if_neg h2]
   have h3:((n:Int)==8)=false:=by simpa using (by omega:¬(n:Int)=8)
   clear h2;exact abh
theorem Ow(x:Oh)(w:World)(hx:In w x):Calls prog 244 #[.agg (bS x)] w (fun e w'=>e=.returned (.int .i64 (av.size x.v))∧Below w.heap.size w w'):=by
 have hp:=hx.p.len;have hv:=hx.v.len;have hr:=hx.r.len;have HK:=iK w 63 (bS x);unfold av.size;rw[hp,hv,hr];clear hp hv hr hx;by_cases h1:x.v.kind=1
 ·rw[if_pos h1]
  go_enter func244,ntmps244;go_wp2_with (first|refine zX (iM HK 0) ?_|refine zX (mK HK 0) ?_);exact lQ
 rw[if_neg h1];by_cases h2:x.v.kind=2
 ·rw[if_pos h2]
  go_enter func244,ntmps244;go_wp2_with (first|refine zX (iM HK 0) ?_|refine zX (rM HK 0) ?_);exact lQ
 rw[if_neg h2];by_cases h5:x.v.kind=5
 ·rw[if_pos h5]
  go_enter func244,ntmps244;go_wp2_with (first|refine zX (iM HK 0) ?_|refine zX (Ug HK 0) ?_);exact lQ
 ·rw[if_neg h5]
  go_enter func244,ntmps244;go_wp2_with (first|refine zX (iM HK 0) ?_|refine zX (gK HK 0) ?_);exact lQ
end
end Go.Proofs.YtieoeendnccafaaGreat
