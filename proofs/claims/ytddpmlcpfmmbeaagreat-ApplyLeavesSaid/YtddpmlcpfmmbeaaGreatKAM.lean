/- An event once more; what is refused; who leaves stands nowhere; each request has one reply. No condition but those named. -/
import Derived.Test.YtddpmlcpfmmbeaaGreatTk
import Derived.Test.YtddpmlcpfmmbeaaGreatKAK
import Derived.Test.YtddpmlcpfmmbeaaGreatKAL
set_option linter.unusedSimpArgs false
set_option linter.unusedVariables false
set_option maxRecDepth 100000
set_option maxHeartbeats 25600000
namespace Go.Proofs.YtddpmlcpfmmbeaaGreat
section
namespace Ap
open Sto
theorem rep_of{e:Int}{v:Val.V}(h1:0≤e∧e≤18)(h2:Val.chk v=0):rep ⟨e,v⟩=true:=by
 unfold rep
 rw[decide_eq_true h1.1,decide_eq_true h1.2,decide_eq_true h2]
 rfl
theorem chk_e:Val.chk ⟨0,0,0,⟨#[]⟩⟩=0:=Val.chk_none
theorem rep_er{e:Int}(h:0≤e∧e≤18):rep (err e)=true:=rep_of h chk_e
theorem val_range(v:Val.V):0≤Val.chk v∧Val.chk v≤18:=by
 unfold Val.chk
 repeat' split
 all_goals decide
theorem cmd_range(c:Cmd.C):0≤Cmd.chk c∧Cmd.chk c≤18:=by
 have h1:=val_range c.old
 have h2:=val_range c.val
 unfold Cmd.chk
 repeat' split
 all_goals first|decide|exact h1|exact h2
theorem pchk_range(k:ByteArray)(v:Val.V):0≤Dct.pchk k v∧Dct.pchk k v≤18:=by
 have h:=val_range v
 unfold Dct.pchk
 repeat' split
 all_goals first|decide|exact h
theorem vchk_range(v:Val.V):0≤Que.vchk v∧Que.vchk v≤18:=by
 have h:=val_range v
 unfold Que.vchk
 repeat' split
 all_goals first|decide|exact h
theorem pchk_val{k:ByteArray}{v:Val.V}(h:Dct.pchk k v=0):Val.chk v=0:=by
 unfold Dct.pchk at h
 split at h
 ·cases h
 ·split at h
  ·cases h
  ·exact h
theorem gtV_ok(l:List Dct.Pr)(k:ByteArray):Val.chk (Dct.gtV l k)=0:=by
 unfold Dct.gtV
 split
 next h=>
  cases hf:Dct.fnd l k with
  | none=>exact chk_e
  | some v=>
   obtain⟨x,hx,_,e⟩:=Dct.fnd_some hf
   rw[← e]
   exact pchk_val (h.ok x hx)
 next=>exact chk_e
theorem gtE_range(l:List Dct.Pr)(k:ByteArray):0≤Dct.gtE l k∧Dct.gtE l k≤18:=by
 unfold Dct.gtE
 repeat' split
 all_goals decide
theorem ptE_range(l:List Dct.Pr)(k:ByteArray)(v:Val.V):0≤Dct.ptE l k v∧Dct.ptE l k v≤18:=by
 have h:=pchk_range k v
 unfold Dct.ptE
 repeat' split
 all_goals first|decide|exact h
theorem swE_range(l:List Dct.Pr)(k:ByteArray)(o v:Val.V):0≤Dct.swE l k o v∧Dct.swE l k o v≤18:=by
 have h:=ptE_range l k v
 unfold Dct.swE
 repeat' split
 all_goals first|decide|exact h
theorem swV_ok(l:List Dct.Pr)(k:ByteArray)(o:Val.V):Val.chk (Dct.swV l k o)=0:=by
 unfold Dct.swV
 split
 ·exact chk_e
 ·exact gtV_ok l k
theorem psE_range(n:Int)(l:List Val.V)(v:Val.V):0≤Que.psE n l v∧Que.psE n l v≤18:=by
 have h:=vchk_range v
 unfold Que.psE
 repeat' split
 all_goals first|decide|exact h
theorem ppE_range(n:Int)(l:List Val.V):0≤Que.ppE n l∧Que.ppE n l≤18:=by
 unfold Que.ppE
 repeat' split
 all_goals decide
theorem ppV_ok(n:Int)(l:List Val.V):Val.chk (Que.ppV n l)=0:=by
 unfold Que.ppV
 split
 next h=>
  cases l with
  | nil=>exact chk_e
  | cons v m=>
   have:=h.ok v (List.mem_cons_self ..)
   show Val.chk v=0
   unfold Que.vchk at this
   split at this
   ·cases this
   ·exact this
 next=>exact chk_e
theorem adE_range(x:Mtr):0≤Mt.adE x∧Mt.adE x≤18:=by
 unfold Mt.adE
 repeat' split
 all_goals decide
theorem tkE_range(l:List Rf)(r:Rf):0≤Lck.tkE l r∧Lck.tkE l r≤18:=by
 unfold Lck.tkE
 repeat' split
 all_goals decide
theorem frE_range(l:List Rf)(r:Rf):0≤Lck.frE l r∧Lck.frE l r≤18:=by
 unfold Lck.frE
 repeat' split
 all_goals decide
theorem wtE_range(m:Int)(l:List Rf)(r:Rf):0≤Gt.wtE m l r∧Gt.wtE m l r≤18:=by
 unfold Gt.wtE
 repeat' split
 all_goals decide
theorem num_ok(n:Int):Val.chk (num n)=0:=Val.chk_int n
theorem rd_rep(x:Mtr)(q:Int):rep ⟨(Mt.rd x q).e,⟨(Mt.rd x q).k,(Mt.rd x q).n,(Mt.rd x q).f,⟨#[]⟩⟩⟩=true:=by
 unfold Mt.rd
 split
 ·exact rep_er (e:=1) (by decide)
 next h=>
  split
  ·exact rep_of (e:=0) (by decide) (Val.chk_int x.n)
  ·split
   ·exact rep_er (e:=10) (by decide)
   next hn=>
    refine rep_of (e:=0) (by decide) (Val.chk_float ?_)
    have hok:Mt.Ok x:=Decidable.byContradiction fun g=>h (.inl g)
    rcases hok with ⟨g,_⟩|⟨_,g1,g2,g3,_⟩
    ·exact absurd g hn
    ·split
     ·exact g1
     ·split
      ·exact g2
      ·exact g3
theorem wait_rep(o:Ob)(r:Rf):rep (wait o r).p=true∧∀y∈(wait o r).outs,rep y.p=true:=by
 generalize hx:wait o r=x
 unfold wait at hx
 split at hx
 ·subst hx;exact⟨rep_er (wtE_range ..),fun y hy=>by cases hy⟩
 split at hx
 ·subst hx;exact⟨rep_er (e:=6) (by decide),fun y hy=>by cases hy⟩
 ·subst hx
  refine⟨rep_of (e:=0) (by decide) (num_ok _),fun y hy=>?_⟩
  obtain⟨x,_,e⟩:=List.mem_map.1 hy
  rw[← e]
  exact rep_of (e:=0) (by decide) (num_ok _)
theorem rep_z:rep rz=true:=rep_of (by decide) chk_e
theorem held_rep(y:Rf)(b:Bool):∀z∈held y b,rep z.p=true:=fun z hz=>by
 unfold held at hz
 split at hz
 ·rw[List.mem_singleton.1 hz];exact rep_z
 ·cases hz
theorem act_rep(o:Ob)(r:Rf)(c:Cmd.C):rep (act o r c).p=true∧∀y∈(act o r c).outs,rep y.p=true:=by
 have none:∀y∈([]:List Ot),rep y.p=true:=fun y hy=>by cases hy
 generalize hx:act o r c=x
 unfold act at hx
 by_cases h12:c.k=12
 ·rw[if_pos h12] at hx;subst hx;exact⟨rep_er (tkE_range ..),none⟩
 rw[if_neg h12] at hx
 by_cases h13:c.k=13
 ·rw[if_pos h13] at hx;subst hx;exact⟨rep_er (frE_range ..),held_rep _ _⟩
 rw[if_neg h13] at hx
 by_cases h14:c.k=14
 ·rw[if_pos h14] at hx;subst hx;exact wait_rep o r
 rw[if_neg h14] at hx
 by_cases h6:c.k=6
 ·rw[if_pos h6] at hx;subst hx;exact⟨rep_of (gtE_range ..) (gtV_ok ..),none⟩
 rw[if_neg h6] at hx
 by_cases h7:c.k=7
 ·rw[if_pos h7] at hx;subst hx;exact⟨rep_er (ptE_range ..),none⟩
 rw[if_neg h7] at hx
 by_cases h8:c.k=8
 ·rw[if_pos h8] at hx;subst hx;exact⟨rep_of (gtE_range ..) (gtV_ok ..),none⟩
 rw[if_neg h8] at hx
 by_cases h9:c.k=9
 ·rw[if_pos h9] at hx;subst hx;exact⟨rep_of (swE_range ..) (swV_ok ..),none⟩
 rw[if_neg h9] at hx
 by_cases h10:c.k=10
 ·rw[if_pos h10] at hx;subst hx;exact⟨rep_er (psE_range ..),none⟩
 rw[if_neg h10] at hx
 by_cases h11:c.k=11
 ·rw[if_pos h11] at hx;subst hx;exact⟨rep_of (ppE_range ..) (ppV_ok ..),none⟩
 rw[if_neg h11] at hx
 by_cases h15:c.k=15
 ·rw[if_pos h15] at hx;subst hx;exact⟨rep_er (adE_range ..),none⟩
 rw[if_neg h15] at hx
 by_cases h16:c.k=16
 ·rw[if_pos h16] at hx;subst hx;exact⟨rd_rep ..,none⟩
 rw[if_neg h16] at hx
 by_cases h17:c.k=17
 ·rw[if_pos h17] at hx;subst hx;exact⟨rep_of (e:=0) (by decide) (num_ok _),none⟩
 rw[if_neg h17] at hx
 subst hx;exact⟨rep_z,none⟩
theorem chk_range(l:List Ob)(r:Rf)(c:Cmd.C):0≤chk l r c∧chk l r c≤18:=by
 have h:=cmd_range c
 unfold chk chkN chkO
 repeat' split
 all_goals first|decide|exact h
theorem doo_rep(l:List Ob)(r:Rf)(c:Cmd.C):rep (doo l r c).p=true∧∀y∈(doo l r c).outs,rep y.p=true:=by
 have none:∀y∈([]:List Ot),rep y.p=true:=fun y hy=>by cases hy
 generalize hx:doo l r c=x
 unfold doo at hx
 split at hx
 ·subst hx;exact⟨rep_er (chk_range ..),none⟩
 split at hx
 ·subst hx;exact⟨rep_z,none⟩
 split at hx
 ·subst hx;exact⟨rep_z,none⟩
 split at hx
 ·subst hx;exact⟨rep_z,none⟩
 ·subst hx;exact act_rep _ r c
theorem drop_rep(l:List Ob)(r:Rf):∀y∈dropO l r,rep y.p=true:=fun y hy=>by
 unfold dropO at hy
 split at hy
 ·obtain⟨o,_,hy⟩:=List.mem_flatMap.1 hy
  unfold drO at hy
  split at hy
  ·exact held_rep _ _ y hy
  ·cases hy
 ·cases hy
end Ap
end
section
namespace Ap
open Sto Ses
structure St where
 n:Int
 l:List Ob
 t:T
structure Ok(s:St):Prop where
 n:0≤s.n
 l:Sto.Right s.l
 t:Ses.Right s.t
 w:∀r∈W s.l,Ses.look s.t r=3
 h:∀r∈H s.l,Hd s.t r∧¬(r.r=(s.t.get r.c).rq∧(s.t.get r.c).dn=false)
 p:∀c∈([0,1,2,3,4]:List Int),cnt (W s.l) c=if opn (s.t.get c)=true then 1 else 0
instance (s:St):Decidable (Ok s):=decidable_of_iff (0≤s.n∧Sto.Right s.l∧Ses.Right s.t∧(∀r∈W s.l,Ses.look s.t r=3)∧(∀r∈H s.l,Hd s.t r∧¬(r.r=(s.t.get r.c).rq∧(s.t.get r.c).dn=false))∧∀c∈([0,1,2,3,4]:List Int),cnt (W s.l) c=if opn (s.t.get c)=true then 1 else 0)
 ⟨fun⟨a,b,c,d,e,f⟩=>⟨a,b,c,d,e,f⟩,fun h=>⟨h.n,h.l,h.t,h.w,h.h,h.p⟩⟩
theorem five{c:Int}:c∈([0,1,2,3,4]:List Int)↔0≤c∧c<5:=by
 simp only[List.mem_cons,List.not_mem_nil,or_false]
 omega
theorem Ok.j{s:St}(h:Ok s):J s.t (W s.l) [] (H s.l):=
 ⟨h.t,fun r hr=>h.w r (by simpa using hr),fun c hc=>by rw[List.append_nil];exact h.p c (five.2 hc),fun r hr=>⟨ok_c (H_ok h.l hr),(h.h r hr).1,fun e1 e2=>absurd ⟨e1,e2⟩ (h.h r hr).2⟩⟩
theorem J.state{s:St}(hn:0≤s.n)(hl:Sto.Right s.l)(j:J s.t (W s.l) [] (H s.l)):Ok s:=
 ⟨hn,hl,j.ok,fun r hr=>j.w r (by simpa using hr),fun r hr=>⟨(j.h r hr).2.1,fun g=>by have:=(j.h r hr).2.2 g.1 g.2;cases this⟩,fun c hc=>by have:=j.p c (five.1 hc);rwa [List.append_nil] at this⟩
def rf(t:T)(c:Int):Rf:=⟨c,(t.get c).ep,(t.get c).rq⟩
def prs(Y:List Ot):List (Rf×Rp):=Y.map fun y=>(y.r,y.p)
theorem prs_fst(Y:List Ot):(prs Y).map (·.1)=Y.map (·.r):=by unfold prs;rw[List.map_map];rfl
theorem prs_rep{Y:List Ot}(h:∀y∈Y,rep y.p=true):∀z∈prs Y,rep z.2=true:=fun z hz=>by
 obtain⟨y,hy,e⟩:=List.mem_map.1 hz
 rw[← e]
 exact h y hy
def leaveS(s:St)(c:Int):St:=⟨s.n,dropL s.l (rf s.t c),Ap.ends (closeT s.t c) (prs (dropO s.l (rf s.t c)))⟩
def leaveO(s:St)(c:Int):List Ot:=(if (s.t.get c).dn=true then [] else [⟨rf s.t c,err 14⟩])++dropO s.l (rf s.t c)
theorem nm_is{s:St}(h:Ok s){c:Int}{x:Rf}(hx:x∈W s.l∨x∈H s.l):nm (rf s.t c) x=!decide (x.c=c):=by
 have he:=h.j.mine (r:=x) (hx.imp (fun g=>by simpa using g) id)
 unfold nm
 congr 1
 refine decide_eq_decide.2 ⟨fun g=>g.1,fun g=>⟨g,?_⟩⟩
 show x.e=(s.t.get c).ep
 rw[he,g]
theorem leave_j{s:St}(h:Ok s){c:Int}(hc:0≤c∧c<5)(hl:(s.t.get c).live=true):
  J (closeT s.t c) (W (dropL s.l (rf s.t c))) ((dropO s.l (rf s.t c)).map (·.r)) (H (dropL s.l (rf s.t c)))∧∀y∈dropO s.l (rf s.t c),¬y.r.c=c∧y.r∈W s.l:=by
 obtain⟨p1,p2⟩:=drop_moves h.l (rf s.t c)
 have ew:(W s.l).filter (nm (rf s.t c))=(W s.l).filter fun x=>!decide (x.c=c):=List.filter_congr fun x hx=>nm_is h (.inl hx)
 rw[ew] at p1
 constructor
 ·refine(h.j.close hc hl).perm ?_ fun x hx=>?_
  ·rw[List.filter_nil,List.append_nil];exact p1
  ·rcases p2 x hx with ⟨g1,g2⟩|g
   ·refine .inl ⟨List.mem_filter.2 ⟨g1,?_⟩,fun g=>by cases g⟩
    rw[nm_is h (.inr g1)] at g2
    exact g2
   ·exact .inr g
 ·intro y hy
  have:y.r∈(W s.l).filter fun x=>!decide (x.c=c):=p1.mem_iff.1 (List.mem_append.2 (.inr (List.mem_map.2 ⟨y,hy,rfl⟩)))
  obtain⟨g1,g2⟩:=List.mem_filter.1 this
  exact⟨by simpa using g2,g1⟩
theorem leave_ok{s:St}(h:Ok s){c:Int}(hc:0≤c∧c<5)(hl:(s.t.get c).live=true):Ok (leaveS s c):=by
 obtain⟨j,_⟩:=leave_j h hc hl
 refine J.state (s:=leaveS s c) h.n (drop_right h.l _) (J.ends ?_ (prs_rep (drop_rep s.l _)))
 rw[prs_fst,List.append_nil]
 exact j
theorem end_get{t:T}{r:Rf}{x:Rp}{c:Int}(hc:0≤c∧c<5)(hn:¬r.c=c):(endT t r x).get c=t.get c:=by
 unfold endT
 split
 next g=>
  obtain⟨hk,_,_⟩:=look_in g.1 (by decide)
  exact get_ne (ok_c hk) hc (fun e=>hn e.symm) _
 next=>rfl
theorem ends_get{c:Int}(hc:0≤c∧c<5):∀{Y:List (Rf×Rp)} {t:T},(∀y∈Y,¬y.1.c=c)→(Ap.ends t Y).get c=t.get c
 | [],_,_=>rfl
 | y::m,t,h=>(ends_get hc (Y:=m) (t:=endT t y.1 y.2) fun z hz=>h z (List.mem_cons_of_mem _ hz)).trans (end_get hc (h y (List.mem_cons_self ..)))
theorem leave_get{s:St}(h:Ok s){c:Int}(hc:0≤c∧c<5)(hl:(s.t.get c).live=true):(leaveS s c).t.get c=closeS (s.t.get c):=by
 obtain⟨_,hy⟩:=leave_j h hc hl
 have e:closeT s.t c=s.t.set c (closeS (s.t.get c)):=if_pos ⟨hc.1,hc.2,h.t,hl⟩
 show(Ap.ends (closeT s.t c) _).get c=_
 rw[ends_get hc,e,get_set hc]
 intro z hz
 obtain⟨y,hy2,e⟩:=List.mem_map.1 hz
 rw[← e]
 exact(hy y hy2).1
theorem close_parts(s:S):(closeS s).live=false∧(closeS s).ep=s.ep∧(closeS s).rq=s.rq∧(closeS s).dn=true∧(s.dn=true→(closeS s).p=s.p)∧(s.dn=false→(closeS s).p=err 14):=by
 unfold closeS
 split
 next g=>exact⟨rfl,rfl,rfl,g,fun _=>rfl,fun e=>by rw[g] at e;cases e⟩
 next g=>exact⟨rfl,rfl,rfl,rfl,fun e=>absurd e g,fun _=>rfl⟩
def left(s:St)(c:Int):St:=if (s.t.get c).live=true then leaveS s c else s
def openSt(s:St)(r:Rf):St:=⟨(left s r.c).n,(left s r.c).l,openT (left s r.c).t r⟩
def openO(s:St)(r:Rf):List Ot:=⟨r,openP (left s r.c).t r⟩::(if (s.t.get r.c).live=true then leaveO s r.c else [])
theorem left_ok{s:St}(h:Ok s){c:Int}(hc:0≤c∧c<5):Ok (left s c)∧((left s c).t.get c).live=false∧((left s c).t.get c).ep=(s.t.get c).ep∧(left s c).n=s.n:=by
 unfold left
 split
 next hl=>
  have e:=leave_get h hc hl
  have g:=close_parts (s.t.get c)
  exact⟨leave_ok h hc hl,by rw[e];exact g.1,by rw[e];exact g.2.1,rfl⟩
 next hl=>exact⟨h,Bool.eq_false_iff.2 hl,rfl,rfl⟩
theorem left_look{s:St}(h:Ok s){r:Rf}(hl:Ses.look s.t r=1)(h0:r.r=0):Ses.look (left s r.c).t r=1:=by
 obtain⟨hk,_,hs⟩:=look_in hl (by decide)
 obtain⟨g1,_,g3,_⟩:=left_ok h (ok_c hk)
 unfold Ses.look
 rw[if_pos ⟨hk,g1.t⟩]
 unfold lookS
 rw[if_pos]
 rw[g3]
 rcases fresh_is hs with g|⟨_,g,_,_⟩
 ·exact g
 ·exfalso
  have:=(right_one h.t (ok_c hk))
  by_cases he:(s.t.get r.c).ep=0
  ·have:=one_zero this he
   rw[this] at g
   have:r.r=0+1:=g
   omega
  ·have:=(one_pos this he).2.2.1
   omega
theorem open_ok{s:St}(h:Ok s){r:Rf}(hk:Lck.ok r)(h0:r.r=0):Ok (openSt s r):=by
 obtain⟨g1,g2,_,g4⟩:=left_ok h (ok_c hk)
 refine J.state (s:=openSt s r) (by show 0≤(left s r.c).n;rw[g4];exact h.n) g1.l ?_
 show J (openT (left s r.c).t r) _ [] _
 by_cases hl:Ses.look (left s r.c).t r=1
 ·exact g1.j.open_ hl h0 g2
 ·have:openT (left s r.c).t r=(left s r.c).t:=if_neg fun g=>hl g.1
  rw[this]
  exact g1.j
def touch(s:St)(r:Rf):St:=⟨s.n,s.l,endT (begT s.t r) r rz⟩
def kept(s:St)(r:Rf)(c:Cmd.C):St:=⟨s.n,(doo s.l r c).l,Ap.ends (endT (begT s.t r) r (doo s.l r c).p) (prs (doo s.l r c).outs)⟩
def freshS(s:St)(r:Rf)(c:Cmd.C):St:=
 if c.k=3 then touch s r else if c.k=2 then leaveS (touch s r) r.c
 else if (doo s.l r c).later=true then ⟨s.n,(doo s.l r c).l,begT s.t r⟩ else kept s r c
def freshO(s:St)(r:Rf)(c:Cmd.C):List Ot:=
 if c.k=3 then [⟨r,rz⟩] else if c.k=2 then ⟨r,rz⟩::leaveO (touch s r) r.c
 else if (doo s.l r c).later=true then [] else ⟨r,(doo s.l r c).p⟩::(doo s.l r c).outs
theorem touch_ok{s:St}(h:Ok s){r:Rf}(hl:Ses.look s.t r=1)(h0:¬r.r=0):Ok (touch s r):=
 J.state (s:=touch s r) h.n h.l ((h.j.begin hl h0).end_ (x:=rz) rep_z)
theorem beg_get{t:T}{r:Rf}(hl:Ses.look t r=1)(h0:¬r.r=0):(begT t r).get r.c = { t.get r.c with rq:=r.r,dn:=false,p:=rz }:=by
 unfold begT
 rw[if_pos ⟨hl,h0⟩,get_set (look_c hl (by decide))]
theorem beg_look{t:T}{r:Rf}(hl:Ses.look t r=1)(h0:¬r.r=0):Ses.look (begT t r) r=3:=by
 obtain⟨hk,hR,g1,g2,g3,g4⟩:=fresh_parts hl h0
 refine look_3 hk (beg_right hR r) ?_ ?_ ?_<;>rw[beg_get hl h0]
 exact g1
theorem end_get_self{t:T}{r:Rf}{x:Rp}(hl:Ses.look t r=3)(hx:rep x=true):(endT t r x).get r.c = { t.get r.c with dn:=true,p:=x }:=by
 unfold endT
 rw[if_pos ⟨hl,hx⟩,get_set (look_c hl (by decide))]
theorem touch_get{s:St}{r:Rf}{x:Rp}(hl:Ses.look s.t r=1)(h0:¬r.r=0)(hx:rep x=true):(endT (begT s.t r) r x).get r.c = { s.t.get r.c with rq:=r.r,dn:=true,p:=x }:=by
 rw[end_get_self (beg_look hl h0) hx,beg_get hl h0]
theorem fresh_ok{s:St}(h:Ok s){r:Rf}(hl:Ses.look s.t r=1)(h0:¬r.r=0)(c:Cmd.C):Ok (freshS s r c):=by
 have hc:=look_c hl (by decide)
 have hlive:=(fresh_parts hl h0).2.2.2.2.1
 unfold freshS
 split
 ·exact touch_ok h hl h0
 split
 ·refine leave_ok (touch_ok h hl h0) hc ?_
  show((endT (begT s.t r) r rz).get r.c).live=true
  rw[touch_get hl h0 rep_z]
  exact hlive
 have j:=h.j.begin hl h0
 have hnot:=h.j.fresh_not hl h0
 obtain⟨m1,m2⟩:=doo_moves h.l r c
 obtain⟨d1,d2⟩:=doo_rep s.l r c
 have hR:=doo_right h.l r c
 split
 next hla=>
  obtain⟨_,a,b⟩:=m2 hla
  refine J.state (s:=⟨s.n,(doo s.l r c).l,begT s.t r⟩) h.n hR (j.perm ?_ fun x hx=>.inl ⟨b x hx,fun g=>?_⟩)
  ·rw[List.append_nil];exact a
  ·rw[lnA] at g
   rw[List.mem_singleton.1 g] at hx
   exact absurd (b r hx) hnot
 next hla=>
  obtain⟨a,b⟩:=m1 (Bool.eq_false_iff.2 hla)
  have j2:J (begT s.t r) (W (doo s.l r c).l) (r::(doo s.l r c).outs.map (·.r)) (H (doo s.l r c).l):=by
   refine j.perm ?_ fun x hx=>?_
   ·refine List.Perm.trans List.perm_middle ?_
    refine List.Perm.trans (List.Perm.cons r a) ?_
    exact(List.perm_append_comm (l₁:=[r]) (l₂:=W s.l))
   ·rcases b x hx with g|g|g
    ·refine .inl ⟨g,fun g2=>?_⟩
     rw[lnA] at g2
     rw[List.mem_singleton.1 g2] at g
     exact absurd g hnot
    ·exact .inr (List.mem_cons_of_mem _ g)
    ·rw[g];exact .inr (List.mem_cons_self ..)
  have j3:=j2.end_ (x:=(doo s.l r c).p) d1
  refine J.state (s:=kept s r c) h.n hR (J.ends ?_ (prs_rep d2))
  rw[prs_fst,List.append_nil]
  exact j3
theorem doo_other{s:St}(h:Ok s){r:Rf}(hl:Ses.look s.t r=1)(h0:¬r.r=0){c:Cmd.C}{y:Ot}(hy:y∈(doo s.l r c).outs):¬y.r.c=r.c:=by
 obtain⟨hk,hR,g1,g2,g3,g4⟩:=fresh_parts hl h0
 obtain⟨m1,m2⟩:=doo_moves h.l r c
 have hla:(doo s.l r c).later=false:=by
  cases e:(doo s.l r c).later with
  | false=>rfl
  | true=>
   have:=(m2 e).1
   rw[List.map_eq_nil_iff.1 this] at hy
   cases hy
 have hw:y.r∈W s.l:=(m1 hla).1.mem_iff.1 (List.mem_append.2 (.inr (List.mem_map.2 ⟨y,hy,rfl⟩)))
 exact h.j.none (ok_c hk) (by unfold opn;rw[g4];simp) (by simpa using hw)
def ref(e:Cmd.E):Rf:=⟨e.c,e.e,e.r⟩
def up(s:St):St:=⟨s.n+1,s.l,s.t⟩
def Can(s:St)(e:Cmd.E):Prop:=Ok s∧Cmd.fits e∧¬s.n=9223372036854775807
instance (s:St) (e:Cmd.E):Decidable (Can s e):=by unfold Can;infer_instance
def goS(s:St)(e:Cmd.E):St:=
 if e.cmd.k=18 then (if (s.t.get e.c).live=true∧(s.t.get e.c).ep=e.e then leaveS s e.c else s)
 else if Ses.look s.t (ref e)=1 then (if e.r=0 then openSt s (ref e) else freshS s (ref e) e.cmd) else s
def goO(s:St)(e:Cmd.E):List Ot:=
 if e.cmd.k=18 then (if (s.t.get e.c).live=true∧(s.t.get e.c).ep=e.e then leaveO s e.c else [])
 else if Ses.look s.t (ref e)=1 then (if e.r=0 then openO s (ref e) else freshO s (ref e) e.cmd)
 else if Ses.look s.t (ref e)=2 then [⟨ref e,(s.t.get e.c).p⟩] else if Ses.look s.t (ref e)=4 then [⟨ref e,err 14⟩] else []
def apS(s:St)(e:Cmd.E):St:=if Can s e then goS (up s) e else s
def apO(s:St)(e:Cmd.E):List Ot:=if Can s e then goO (up s) e else []
theorem up_ok{s:St}(h:Ok s):Ok (up s):=⟨by show 0≤s.n+1;have:=h.n;omega,h.l,h.t,h.w,h.h,h.p⟩
theorem fits_ref{e:Cmd.E}(h:Cmd.fits e):Lck.ok (ref e):=h.1
theorem go_ok{s:St}(h:Ok s){e:Cmd.E}(he:Cmd.fits e):Ok (goS s e):=by
 have hk:=fits_ref he
 unfold goS
 split
 ·split
  next g=>exact leave_ok h (ok_c hk) g.1
  next=>exact h
 ·split
  next hl=>
   split
   next h0=>exact open_ok h hk h0
   next h0=>exact fresh_ok h hl h0 e.cmd
  next=>exact h
theorem ap_ok{s:St}(h:Ok s)(e:Cmd.E):Ok (apS s e):=by
 unfold apS
 split
 next g=>exact go_ok (up_ok h) g.2.1
 next=>exact h
theorem left_n(s:St)(c:Int):(left s c).n=s.n:=by unfold left;split<;>rfl
theorem go_n(s:St)(e:Cmd.E):(goS s e).n=s.n:=by
 unfold goS freshS
 repeat' split
 all_goals first|rfl|exact left_n s _
end Ap
end
section
namespace Ap
open Sto Ses
theorem left_up(s:St)(c:Int):left (up s) c=up (left s c):=by
 unfold left
 show(if (s.t.get c).live=true then up (leaveS s c) else up s)=_
 split<;>rfl
theorem openSt_up(s:St)(r:Rf):openSt (up s) r=up (openSt s r):=by
 unfold openSt
 rw[left_up]
 rfl
theorem openO_up(s:St)(r:Rf):openO (up s) r=openO s r:=by
 unfold openO
 rw[left_up]
 rfl
theorem freshS_up(s:St)(r:Rf)(c:Cmd.C):freshS (up s) r c=up (freshS s r c):=by
 unfold freshS
 show(if c.k=3 then up (touch s r) else if c.k=2 then up (leaveS (touch s r) r.c) else if (doo s.l r c).later=true then up ⟨s.n,(doo s.l r c).l,begT s.t r⟩ else up (kept s r c))=_
 by_cases h3:c.k=3
 ·rw[if_pos h3,if_pos h3]
 rw[if_neg h3,if_neg h3]
 by_cases h2:c.k=2
 ·rw[if_pos h2,if_pos h2]
 rw[if_neg h2,if_neg h2]
 by_cases hl:(doo s.l r c).later=true
 ·rw[if_pos hl,if_pos hl]
 rw[if_neg hl,if_neg hl]
theorem go_up_o(s:St)(e:Cmd.E):goO (up s) e=goO s e:=by
 unfold goO
 rw[openO_up]
 rfl
theorem go_up(s:St)(e:Cmd.E):goS (up s) e=up (goS s e):=by
 unfold goS
 rw[openSt_up,freshS_up]
 show(if e.cmd.k=18 then (if (s.t.get e.c).live=true∧(s.t.get e.c).ep=e.e then up (leaveS s e.c) else up s) else if Ses.look s.t (ref e)=1 then (if e.r=0 then up (openSt s (ref e)) else up (freshS s (ref e) e.cmd)) else up s)=_
 by_cases h1:e.cmd.k=18
 ·rw[if_pos h1,if_pos h1]
  split<;>rfl
 rw[if_neg h1,if_neg h1]
 by_cases h2:Ses.look s.t (ref e)=1
 ·rw[if_pos h2,if_pos h2]
  split<;>rfl
 rw[if_neg h2,if_neg h2]
def own:List Ot→Rf→Option Rp
 | [],_=>none
 | y::m,r=>if y.r=r then some y.p else own m r
theorem own_head(y:Ot)(m:List Ot):own (y::m) y.r=some y.p:=if_pos rfl
theorem look_2{t:T}{r:Rf}(hk:Lck.ok r)(hR:Ses.Right t)(h1:r.e=(t.get r.c).ep)(h2:r.r=(t.get r.c).rq)(h3:(t.get r.c).dn=true):Ses.look t r=2:=by
 unfold Ses.look
 rw[if_pos ⟨hk,hR⟩]
 unfold lookS
 rw[if_neg (by omega),if_neg (by omega),if_pos h2,h3]
 rfl
theorem go_18{s:St}{e:Cmd.E}(hk:e.cmd.k=18):goS s e=(if (s.t.get e.c).live=true∧(s.t.get e.c).ep=e.e then leaveS s e.c else s)∧goO s e=(if (s.t.get e.c).live=true∧(s.t.get e.c).ep=e.e then leaveO s e.c else []):=⟨if_pos hk,if_pos hk⟩
theorem go_1{s:St}{e:Cmd.E}(hk:¬e.cmd.k=18)(hl:Ses.look s.t (ref e)=1):goS s e=(if e.r=0 then openSt s (ref e) else freshS s (ref e) e.cmd)∧goO s e=(if e.r=0 then openO s (ref e) else freshO s (ref e) e.cmd):=by
 unfold goS goO
 rw[if_neg hk,if_neg hk,if_pos hl,if_pos hl]
 exact⟨rfl,rfl⟩
theorem go_2{s:St}{e:Cmd.E}(hk:¬e.cmd.k=18)(hl:Ses.look s.t (ref e)=2):goS s e=s∧goO s e=[⟨ref e,(s.t.get e.c).p⟩]:=by
 unfold goS goO
 rw[if_neg hk,if_neg hk,hl]
 exact⟨rfl,rfl⟩
theorem go_3{s:St}{e:Cmd.E}(hk:¬e.cmd.k=18)(hl:Ses.look s.t (ref e)=3):goS s e=s∧goO s e=[]:=by
 unfold goS goO
 rw[if_neg hk,if_neg hk,hl]
 exact⟨rfl,rfl⟩
theorem go_no{s:St}{e:Cmd.E}(hk:¬e.cmd.k=18)(hl:¬Ses.look s.t (ref e)=1):goS s e=s∧(goO s e).length≤1:=by
 unfold goS goO
 rw[if_neg hk,if_neg hk,if_neg hl,if_neg hl]
 refine⟨rfl,?_⟩
 repeat' split
 all_goals first|exact Nat.zero_le _|exact Nat.le_refl _
theorem kept_get{s:St}(h:Ok s){r:Rf}(hl:Ses.look s.t r=1)(h0:¬r.r=0)(c:Cmd.C):(kept s r c).t.get r.c = { s.t.get r.c with rq:=r.r,dn:=true,p:=(doo s.l r c).p }:=by
 show(Ap.ends (endT (begT s.t r) r (doo s.l r c).p) _).get r.c=_
 rw[ends_get (look_c hl (by decide)),touch_get hl h0 (doo_rep ..).1]
 intro z hz
 obtain⟨y,hy,e⟩:=List.mem_map.1 hz
 rw[← e]
 exact doo_other h hl h0 hy
theorem quit_get{s:St}(h:Ok s){r:Rf}(hl:Ses.look s.t r=1)(h0:¬r.r=0):(leaveS (touch s r) r.c).t.get r.c = { s.t.get r.c with live:=false,rq:=r.r,dn:=true,p:=rz }:=by
 have hc:=look_c hl (by decide)
 have hlive:=(fresh_parts hl h0).2.2.2.2.1
 have e:(touch s r).t.get r.c = { s.t.get r.c with rq:=r.r,dn:=true,p:=rz }:=touch_get hl h0 rep_z
 rw[leave_get (touch_ok h hl h0) hc (by rw[e];exact hlive),e]
 rfl
theorem go_twice{s:St}(h:Ok s){e:Cmd.E}(he:Cmd.fits e):goS (goS s e) e=goS s e∧(goO (goS s e) e).length≤1∧(¬e.cmd.k=18→∀x,own (goO s e) (ref e)=some x→own (goO (goS s e) e) (ref e)=some x):=by
 have hk:=fits_ref he
 have hc:0≤e.c∧e.c<5:=ok_c hk
 have hok:=go_ok h he
 by_cases h18:e.cmd.k=18
 ·refine⟨?_,?_,fun g=>absurd h18 g⟩<;>(rw[(go_18 (s:=s) h18).1])
  ·by_cases g:(s.t.get e.c).live=true∧(s.t.get e.c).ep=e.e
   ·rw[if_pos g,(go_18 h18).1,leave_get h hc g.1,if_neg (fun q=>by rw[(close_parts _).1] at q;cases q.1)]
   ·rw[if_neg g,(go_18 h18).1,if_neg g]
  ·by_cases g:(s.t.get e.c).live=true∧(s.t.get e.c).ep=e.e
   ·rw[if_pos g,(go_18 h18).2,leave_get h hc g.1,if_neg (fun q=>by rw[(close_parts _).1] at q;cases q.1)]
    exact Nat.zero_le 1
   ·rw[if_neg g,(go_18 h18).2,if_neg g]
    exact Nat.zero_le 1
 by_cases hl:Ses.look s.t (ref e)=1
 case neg=>
  obtain⟨a,b⟩:=go_no h18 hl
  rw[a]
  exact⟨a,b,fun _ x hx=>hx⟩
 -- the state behind it has this session
 have fin:∀p:Rp,Ses.look (goS s e).t (ref e)=2→((goS s e).t.get e.c).p=p→(own (goO s e) (ref e)=some p)→goS (goS s e) e=goS s e∧(goO (goS s e) e).length≤1∧(¬e.cmd.k=18→∀x,own (goO s e) (ref e)=some x→own (goO (goS s e) e) (ref e)=some x):=fun p h2 hp ho=>by
  obtain⟨a,b⟩:=go_2 h18 h2
  refine⟨a,by rw[b];exact Nat.le_refl 1,fun _ x hx=>?_⟩
  rw[b,hp]
  rw[ho] at hx
  rw[← hx]
  exact own_head ⟨ref e,p⟩ []
 obtain⟨a,b⟩:=go_1 h18 hl
 by_cases h0:e.r=0
 ·rw[if_pos h0] at a b
  have hl2:=left_look h hl h0
  have eT:openT (left s e.c).t (ref e)=(left s e.c).t.set e.c (openS (left s e.c).t (ref e)):=if_pos ⟨hl2,h0⟩
  have eP:openP (left s e.c).t (ref e)=(openS (left s e.c).t (ref e)).p:=if_pos ⟨hl2,h0⟩
  have eg:(goS s e).t.get e.c=openS (left s e.c).t (ref e):=by
   rw[a]
   show(openT (left s e.c).t (ref e)).get e.c=_
   rw[eT,get_set hc]
  have q:(openS (left s e.c).t (ref e)).ep=e.e∧(openS (left s e.c).t (ref e)).rq=0∧(openS (left s e.c).t (ref e)).dn=true:=by
   unfold openS
   split<;>exact⟨rfl,rfl,rfl⟩
  refine fin (openP (left s e.c).t (ref e)) (look_2 hk hok.t ?_ ?_ ?_) (by rw[eg,eP]) (by rw[b];exact own_head _ _)
  ·show e.e=((goS s e).t.get e.c).ep
   rw[eg,q.1]
  ·show e.r=((goS s e).t.get e.c).rq
   rw[eg,q.2.1,h0]
  ·show((goS s e).t.get e.c).dn=true
   rw[eg,q.2.2]
 rw[if_neg h0] at a b
 have hep:e.e=(s.t.get e.c).ep:=(fresh_parts hl h0).2.2.1
 by_cases h3:e.cmd.k=3
 ·have a2:goS s e=touch s (ref e):=by rw[a];unfold freshS;rw[if_pos h3]
  have eg:(goS s e).t.get e.c = { s.t.get e.c with rq:=e.r,dn:=true,p:=rz }:=by rw[a2];exact touch_get hl h0 rep_z
  refine fin rz (look_2 hk hok.t ?_ ?_ ?_) (by rw[eg]) (by rw[b];unfold freshO;rw[if_pos h3];exact own_head _ _)
  ·show e.e=((goS s e).t.get e.c).ep
   rw[eg];exact hep
  ·show e.r=((goS s e).t.get e.c).rq
   rw[eg]
  ·show((goS s e).t.get e.c).dn=true
   rw[eg]
 by_cases h2:e.cmd.k=2
 ·have a2:goS s e=leaveS (touch s (ref e)) e.c:=by rw[a];unfold freshS;rw[if_neg h3,if_pos h2];rfl
  have eg:(goS s e).t.get e.c = { s.t.get e.c with live:=false,rq:=e.r,dn:=true,p:=rz }:=by rw[a2];exact quit_get h hl h0
  refine fin rz (look_2 hk hok.t ?_ ?_ ?_) (by rw[eg]) (by rw[b];unfold freshO;rw[if_neg h3,if_pos h2];exact own_head _ _)
  ·show e.e=((goS s e).t.get e.c).ep
   rw[eg];exact hep
  ·show e.r=((goS s e).t.get e.c).rq
   rw[eg]
  ·show((goS s e).t.get e.c).dn=true
   rw[eg]
 by_cases hla:(doo s.l (ref e) e.cmd).later=true
 ·have a2:goS s e=⟨s.n,(doo s.l (ref e) e.cmd).l,begT s.t (ref e)⟩:=by rw[a];unfold freshS;rw[if_neg h3,if_neg h2,if_pos hla]
  have b2:goO s e=[]:=by rw[b];unfold freshO;rw[if_neg h3,if_neg h2,if_pos hla]
  have hw:Ses.look (goS s e).t (ref e)=3:=by rw[a2];exact beg_look hl h0
  obtain⟨a3,b3⟩:=go_3 h18 hw
  refine⟨a3,by rw[b3];exact Nat.zero_le 1,fun _ x hx=>?_⟩
  rw[b2] at hx
  cases hx
 ·have a2:goS s e=kept s (ref e) e.cmd:=by rw[a];unfold freshS;rw[if_neg h3,if_neg h2,if_neg hla]
  have b2:goO s e=⟨ref e,(doo s.l (ref e) e.cmd).p⟩::(doo s.l (ref e) e.cmd).outs:=by rw[b];unfold freshO;rw[if_neg h3,if_neg h2,if_neg hla]
  have eg:(goS s e).t.get e.c = { s.t.get e.c with rq:=e.r,dn:=true,p:=(doo s.l (ref e) e.cmd).p }:=by rw[a2];exact kept_get h hl h0 e.cmd
  refine fin (doo s.l (ref e) e.cmd).p (look_2 hk hok.t ?_ ?_ ?_) (by rw[eg]) (by rw[b2];exact own_head _ _)
  ·show e.e=((goS s e).t.get e.c).ep
   rw[eg];exact hep
  ·show e.r=((goS s e).t.get e.c).rq
   rw[eg]
  ·show((goS s e).t.get e.c).dn=true
   rw[eg]
theorem ap_bad{s:St}{e:Cmd.E}(h:¬Can s e):apS s e=s∧apO s e=[]:=⟨if_neg h,if_neg h⟩
theorem ap_can{s:St}{e:Cmd.E}(h:Can s e):apS s e=up (goS s e)∧apO s e=goO s e:=⟨(if_pos h).trans (go_up s e),(if_pos h).trans (go_up_o s e)⟩
theorem ap_twice{s:St}(h:Ok s)(hn:s.n<4611686018427387904)(e:Cmd.E):
  (apS (apS s e) e).n-(apS s e).n=(apS s e).n-s.n∧(apS (apS s e) e).l=(apS s e).l∧(apS (apS s e) e).t=(apS s e).t∧(apO (apS s e) e).length≤1∧
   (¬e.cmd.k=18→∀x,own (apO s e) (ref e)=some x→own (apO (apS s e) e) (ref e)=some x):=by
 by_cases hf:Cmd.fits e
 case neg=>
  have h1:¬Can s e:=fun g=>hf g.2.1
  rw[(ap_bad h1).1,(ap_bad h1).2,(ap_bad h1).1]
  exact⟨by omega,rfl,rfl,Nat.zero_le 1,fun _ x hx=>hx⟩
 have c1:Can s e:=⟨h,hf,by omega⟩
 obtain⟨a,b⟩:=ap_can c1
 have hok:=ap_ok h e
 have hn2:(apS s e).n=s.n+1:=by rw[a];show(goS s e).n+1=_;rw[go_n]
 have c2:Can (apS s e) e:=⟨hok,hf,by omega⟩
 obtain⟨a2,b2⟩:=ap_can c2
 obtain⟨t1,t2,t3⟩:=go_twice h hf
 have e1:goS (apS s e) e=apS s e:=by rw[a,go_up,t1]
 have e2:goO (apS s e) e=goO (goS s e) e:=by rw[a,go_up_o]
 rw[a2,b2,e1,e2,b]
 refine⟨?_,rfl,rfl,t2,t3⟩
 show(apS s e).n+1-(apS s e).n=_
 omega
theorem ap_refused{s:St}{e:Cmd.E}(h0:¬e.r=0){x:Rp}(ho:own (apO s e) (ref e)=some x)(hx:¬x.e=0):(apS s e).l=s.l:=by
 by_cases hc:Can s e
 case neg=>rw[(ap_bad hc).1]
 rw[(ap_can hc).2] at ho
 rw[(ap_can hc).1]
 show(goS s e).l=s.l
 have h18:¬e.cmd.k=18:=fun g=>h0 (hc.2.1.2.2.2 (.inr g))
 by_cases hl:Ses.look s.t (ref e)=1
 case neg=>rw[(go_no h18 hl).1]
 obtain⟨a,b⟩:=go_1 h18 hl
 rw[if_neg h0] at a b
 rw[a]
 rw[b] at ho
 unfold freshS
 unfold freshO at ho
 split
 ·rfl
 next h3=>
  rw[if_neg h3] at ho
  split
  next h2=>
   rw[if_pos h2] at ho
   have:=(own_head ⟨ref e,rz⟩ (leaveO (touch s (ref e)) (ref e).c)).symm.trans ho
   injection this with this
   rw[← this] at hx
   exact absurd rfl hx
  next h2=>
   rw[if_neg h2] at ho
   split
   next hla=>
    rw[if_pos hla] at ho
    cases ho
   next hla=>
    rw[if_neg hla] at ho
    have:=(own_head ⟨ref e,(doo s.l (ref e) e.cmd).p⟩ (doo s.l (ref e) e.cmd).outs).symm.trans ho
    injection this with this
    rw[← this] at hx
    exact(doo_no hx).1
def Nowhere(l:List Ob)(c:Int):Prop:=∀o∈l,∀r∈o.refs,¬r.c=c
theorem nowhere_of{s:St}(h:Ok s){c:Int}(hl:(s.t.get c).live=false):Nowhere s.l c:=fun o ho r hr=>by
 obtain⟨n1,n2⟩:=h.j.dead hl
 by_cases h3:o.kind=3
 ·rw[← List.take_append_drop 1 o.refs] at hr
  rcases List.mem_append.1 hr with hr|hr
  ·exact n2 r (List.mem_flatMap.2 ⟨o,ho,by unfold hld;rw[if_pos h3];exact hr⟩)
  ·exact n1 r (List.mem_append.2 (.inl (List.mem_flatMap.2 ⟨o,ho,by unfold wts;rw[if_pos h3];exact hr⟩)))
 ·exact n1 r (List.mem_append.2 (.inl (List.mem_flatMap.2 ⟨o,ho,by unfold wts;rw[if_neg h3];exact hr⟩)))
theorem leave_nowhere{s:St}(h:Ok s){c:Int}(hc:0≤c∧c<5)(hl:(s.t.get c).live=true):Nowhere (leaveS s c).l c∧((leaveS s c).t.get c).live=false:=by
 have e:((leaveS s c).t.get c).live=false:=by rw[leave_get h hc hl];exact(close_parts _).1
 exact⟨nowhere_of (leave_ok h hc hl) e,e⟩
theorem chk_small{k:Int}(hk:k=1∨k=2∨k=18):Cmd.chk ⟨k,⟨#[]⟩,⟨#[]⟩,⟨0,0,0,⟨#[]⟩⟩,⟨0,0,0,⟨#[]⟩⟩,0,0⟩=0:=by
 rcases hk with rfl|rfl|rfl<;>decide
def small(k:Int):Cmd.C:=⟨k,⟨#[]⟩,⟨#[]⟩,⟨0,0,0,⟨#[]⟩⟩,⟨0,0,0,⟨#[]⟩⟩,0,0⟩
theorem leaves_0{s:St}(h:Ok s){c:Int}(hc:0≤c∧c<5)(hn:s.n<4611686018427387904)(he:¬(s.t.get c).ep=0):
  Nowhere (apS s ⟨c,(s.t.get c).ep,0,small 18⟩).l c∧(apS s ⟨c,(s.t.get c).ep,0,small 18⟩).n=s.n+1∧((apS s ⟨c,(s.t.get c).ep,0,small 18⟩).t.get c).live=false:=by
 have hp:=one_pos (right_one h.t hc) he
 have hcan:Can s ⟨c,(s.t.get c).ep,0,small 18⟩:=⟨h,⟨⟨hc.1,hc.2,by have:=hp.2.1;show 1≤(s.t.get c).ep;omega,Int.le_refl 0⟩,chk_small (.inr (.inr rfl)),⟨fun _=>.inr rfl,fun _=>rfl⟩⟩,by omega⟩
 rw[(ap_can hcan).1]
 show Nowhere (goS s _).l c∧(goS s _).n+1=_∧((goS s _).t.get c).live=false
 rw[go_n,(go_18 rfl).1]
 by_cases hl:(s.t.get c).live=true
 ·rw[if_pos ⟨hl,rfl⟩]
  obtain⟨a,b⟩:=leave_nowhere h hc hl
  exact⟨a,rfl,b⟩
 ·rw[if_neg (fun g=>hl g.1)]
  have hl:=Bool.eq_false_iff.2 hl
  exact⟨nowhere_of h hl,rfl,hl⟩
theorem leaves_1{s:St}(h:Ok s){c:Int}(hc:0≤c∧c<5)(hn:s.n<4611686018427387904)(he:¬(s.t.get c).ep=0)(hd:(s.t.get c).dn=true):
  Nowhere (apS s ⟨c,(s.t.get c).ep,(s.t.get c).rq+1,small 2⟩).l c∧(apS s ⟨c,(s.t.get c).ep,(s.t.get c).rq+1,small 2⟩).n=s.n+1∧((apS s ⟨c,(s.t.get c).ep,(s.t.get c).rq+1,small 2⟩).t.get c).live=false:=by
 have hp:=one_pos (right_one h.t hc) he
 have hrq:=hp.2.2.1
 have hk:Lck.ok ⟨c,(s.t.get c).ep,(s.t.get c).rq+1⟩:=⟨hc.1,hc.2,by have:=hp.2.1;show 1≤(s.t.get c).ep;omega,by show 0≤(s.t.get c).rq+1;omega⟩
 have hcan:Can s ⟨c,(s.t.get c).ep,(s.t.get c).rq+1,small 2⟩:=⟨h,⟨hk,chk_small (.inr (.inl rfl)),⟨fun g=>by have g:(s.t.get c).rq+1=0:=g;omega,fun g=>by have:(2:Int)=1∨(2:Int)=18:=g;omega⟩⟩,by omega⟩
 rw[(ap_can hcan).1]
 show Nowhere (goS s _).l c∧(goS s _).n+1=_∧((goS s _).t.get c).live=false
 rw[go_n]
 have hlk:Ses.look s.t ⟨c,(s.t.get c).ep,(s.t.get c).rq+1⟩=if (s.t.get c).live=true then 1 else 4:=by
  unfold Ses.look
  rw[if_pos ⟨hk,h.t⟩]
  unfold lookS
  dsimp only
  rw[if_neg (by omega),if_neg (by omega),if_neg (by omega)]
  split
  next g=>rw[g];rfl
  next g=>
   rw[if_pos ⟨by omega,hd⟩,if_pos (by simpa using g)]
 have h18:¬(small 2).k=18:=by decide
 by_cases hl:(s.t.get c).live=true
 ·rw[if_pos hl] at hlk
  have h0:¬(s.t.get c).rq+1=0:=by omega
  have a:=(go_1 (e:=⟨c,(s.t.get c).ep,(s.t.get c).rq+1,small 2⟩) h18 hlk).1
  rw[if_neg h0] at a
  rw[a]
  have a2:freshS s (ref ⟨c,(s.t.get c).ep,(s.t.get c).rq+1,small 2⟩) (small 2)=leaveS (touch s ⟨c,(s.t.get c).ep,(s.t.get c).rq+1⟩) c:=by
   unfold freshS
   rw[if_neg (by decide),if_pos (show(small 2).k=2 from rfl)]
   rfl
  rw[a2]
  have e:((touch s ⟨c,(s.t.get c).ep,(s.t.get c).rq+1⟩).t.get c).live=true:=by
   have:=touch_get (s:=s) (x:=rz) hlk h0 rep_z
   show((endT _ _ _).get c).live=true
   rw[show(endT (begT s.t ⟨c,(s.t.get c).ep,(s.t.get c).rq+1⟩) ⟨c,(s.t.get c).ep,(s.t.get c).rq+1⟩ rz).get c=_ from this]
   exact hl
  obtain⟨x,y⟩:=leave_nowhere (touch_ok h hlk h0) hc e
  exact⟨x,rfl,y⟩
 ·rw[if_neg hl] at hlk
  have hl:=Bool.eq_false_iff.2 hl
  have a:=(go_no (e:=⟨c,(s.t.get c).ep,(s.t.get c).rq+1,small 2⟩) h18 (by show ¬Ses.look s.t ⟨c,(s.t.get c).ep,(s.t.get c).rq+1⟩=1;rw[hlk];decide)).1
  rw[a]
  exact⟨nowhere_of h hl,rfl,hl⟩
theorem leaves_2{s:St}(h:Ok s){c:Int}(hc:0≤c∧c<5)(hn:s.n<4611686018427387904):
  Nowhere (apS s ⟨c,(s.t.get c).ep+1,0,small 1⟩).l c∧(apS s ⟨c,(s.t.get c).ep+1,0,small 1⟩).n=s.n+1:=by
 have h1:0≤(s.t.get c).ep:=by
  by_cases he:(s.t.get c).ep=0
  ·omega
  ·have:=(one_pos (right_one h.t hc) he).2.1;omega
 have hk:Lck.ok ⟨c,(s.t.get c).ep+1,0⟩:=⟨hc.1,hc.2,by show 1≤(s.t.get c).ep+1;omega,Int.le_refl 0⟩
 have hcan:Can s ⟨c,(s.t.get c).ep+1,0,small 1⟩:=⟨h,⟨hk,chk_small (.inl rfl),⟨fun _=>.inl rfl,fun _=>rfl⟩⟩,by omega⟩
 rw[(ap_can hcan).1]
 show Nowhere (goS s _).l c∧(goS s _).n+1=_
 rw[go_n]
 have hlk:Ses.look s.t ⟨c,(s.t.get c).ep+1,0⟩=1:=by
  unfold Ses.look
  rw[if_pos ⟨hk,h.t⟩]
  unfold lookS
  exact if_pos ⟨rfl,by show(s.t.get c).ep<(s.t.get c).ep+1;omega⟩
 have a:=(go_1 (e:=⟨c,(s.t.get c).ep+1,0,small 1⟩) (show ¬(small 1).k=18 by decide) hlk).1
 rw[if_pos rfl] at a
 rw[a]
 obtain⟨g1,g2,_,_⟩:=left_ok h hc
 exact⟨nowhere_of g1 g2,rfl⟩
theorem ends_fit:∀{Y:List (Rf×Rp)} {t:T},(∀y∈Y,y.2.v.f<18446744073709551616)→Ses.Fit t→Ses.Fit (Ap.ends t Y)
 | [],_,_,h=>h
 | y::m,t,hy,h=>ends_fit (Y:=m) (fun z hz=>hy z (List.mem_cons_of_mem _ hz)) (Ses.fit_end h y.1 (hy y (List.mem_cons_self ..)))
theorem prs_float{Y:List Ot}(h:∀y∈Y,y.p.v.f<18446744073709551616):∀z∈prs Y,z.2.v.f<18446744073709551616:=fun z hz=>by
 obtain⟨y,hy,e⟩:=List.mem_map.1 hz
 rw[← e]
 exact h y hy
theorem leaveO_few(s:St)(c:Int)(h:(dropO s.l (rf s.t c)).length≤8):(leaveO s c).length≤9:=by
 unfold leaveO
 rw[List.length_append]
 split
 ·show 0+_≤9;omega
 ·show 1+_≤9;omega
end Ap
end
end Go.Proofs.YtddpmlcpfmmbeaaGreat
