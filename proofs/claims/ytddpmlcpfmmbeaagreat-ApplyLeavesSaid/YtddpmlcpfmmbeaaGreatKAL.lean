/- Who waits at objects, who holds them; what a session's end and a command make of that; replies may be. No condition but those named. -/
import Derived.Test.YtddpmlcpfmmbeaaGreatTk
import Derived.Test.YtddpmlcpfmmbeaaGreatKAA
import Derived.Test.YtddpmlcpfmmbeaaGreatKAK
set_option linter.unusedSimpArgs false
set_option linter.unusedVariables false
set_option maxRecDepth 100000
set_option maxHeartbeats 25600000
namespace Go.Proofs.YtddpmlcpfmmbeaaGreat
section
namespace Ses
theorem set_set{t:T}{c:Int}(h:0≤c∧c<5)(a b:S):(t.set c a).set c b=t.set c b:=by
 rcases cases5 h with rfl|rfl|rfl|rfl|rfl<;>rfl
theorem look_c{t:T}{r:Rf}{k:Int}(h:look t r=k)(hk:¬k=5):0≤r.c∧r.c<5:=ok_c (look_in h hk).1
theorem beg_yes{t:T}{r:Rf}(h1:decide (look t r=1)=true)(h2:decide (r.r=0)=false):begT t r=t.set r.c { t.get r.c with rq:=r.r,dn:=false,p:=Sto.rz }:=if_pos ⟨of_decide_eq_true h1,of_decide_eq_false h2⟩
theorem beg_no1{t:T}{r:Rf}(h1:decide (look t r=1)=false):begT t r=t:=if_neg fun h=>of_decide_eq_false h1 h.1
theorem beg_no2{t:T}{r:Rf}(h2:decide (r.r=0)=true):begT t r=t:=if_neg fun h=>h.2 (of_decide_eq_true h2)
theorem end_yes{t:T}{r:Rf}{x:Sto.Rp}(h1:decide (look t r=3)=true)(h2:Sto.rep x=true):endT t r x=t.set r.c { t.get r.c with dn:=true,p:=x }:=if_pos ⟨of_decide_eq_true h1,h2⟩
theorem end_no1{t:T}{r:Rf}{x:Sto.Rp}(h1:decide (look t r=3)=false):endT t r x=t:=if_neg fun h=>of_decide_eq_false h1 h.1
theorem end_no2{t:T}{r:Rf}{x:Sto.Rp}(h2:Sto.rep x=false):endT t r x=t:=if_neg fun h=>by rw[h2] at h;cases h.2
theorem op_no1{t:T}{r:Rf}(h1:decide (look t r=1)=false):openT t r=t∧openP t r=Sto.err 1:=⟨if_neg fun h=>of_decide_eq_false h1 h.1,if_neg fun h=>of_decide_eq_false h1 h.1⟩
theorem op_no2{t:T}{r:Rf}(h2:decide (r.r=0)=false):openT t r=t∧openP t r=Sto.err 1:=⟨if_neg fun h=>of_decide_eq_false h2 h.2,if_neg fun h=>of_decide_eq_false h2 h.2⟩
theorem op_yes{t:T}{r:Rf}(h1:decide (look t r=1)=true)(h2:decide (r.r=0)=true)(h3:decide (live t r.c<4)=true):openT t r=t.set r.c ⟨true,r.e,0,true,Sto.rz⟩∧openP t r=Sto.rz:=by
 have e:openS t r=⟨true,r.e,0,true,Sto.rz⟩:=if_pos (of_decide_eq_true h3)
 refine⟨(if_pos ⟨of_decide_eq_true h1,of_decide_eq_true h2⟩).trans (by rw[e]),(if_pos ⟨of_decide_eq_true h1,of_decide_eq_true h2⟩).trans (by rw[e])⟩
theorem op_full{t:T}{r:Rf}(h1:decide (look t r=1)=true)(h2:decide (r.r=0)=true)(h3:decide (live t r.c<4)=false):openT t r=t.set r.c ⟨false,r.e,0,true,Sto.err 6⟩∧openP t r=Sto.err 6:=by
 have e:openS t r=⟨false,r.e,0,true,Sto.err 6⟩:=if_neg (of_decide_eq_false h3)
 refine⟨(if_pos ⟨of_decide_eq_true h1,of_decide_eq_true h2⟩).trans (by rw[e]),(if_pos ⟨of_decide_eq_true h1,of_decide_eq_true h2⟩).trans (by rw[e])⟩
theorem live_z{t:T}{c:Int}(h:0≤c∧c<5):live (t.set c z) (-1)=live t c:=by
 rw[live_set h]
 show live t c+0=_
 omega
theorem cl_lo{t:T}{c:Int}(h:decide (c<0)=true):closeT t c=t:=if_neg fun g=>by have:=of_decide_eq_true h;omega
theorem cl_hi{t:T}{c:Int}(h:decide (5≤c)=true):closeT t c=t:=if_neg fun g=>by have:=of_decide_eq_true h;omega
theorem cl_no{t:T}{c:Int}(h:decide (Right t)=false):closeT t c=t:=if_neg fun g=>of_decide_eq_false h g.2.2.1
theorem cl_dead{t:T}{c:Int}(h:(t.get c).live=false):closeT t c=t:=if_neg fun g=>by rw[h] at g;cases g.2.2.2
theorem cl_in{c:Int}(h1:decide (c<0)=false)(h2:decide (5≤c)=false):0≤c∧c<5:=by
 have:=of_decide_eq_false h1
 have:=of_decide_eq_false h2
 omega
theorem cl_done{t:T}{c:Int}(h:0≤c∧c<5)(h2:decide (Right t)=true)(h3:(t.get c).live=true)(h4:(t.get c).dn=true):closeT t c=t.set c { t.get c with live:=false }:=
 (if_pos ⟨h.1,h.2,of_decide_eq_true h2,h3⟩).trans (by rw[closeS,if_pos h4])
theorem cl_open{t:T}{c:Int}(h:0≤c∧c<5)(h2:decide (Right t)=true)(h3:(t.get c).live=true)(h4:(t.get c).dn=false):closeT t c=t.set c { t.get c with live:=false,dn:=true,p:=Sto.err 14 }:=
 (if_pos ⟨h.1,h.2,of_decide_eq_true h2,h3⟩).trans (by rw[closeS,if_neg (by rw[h4];decide)])
end Ses
end
section
namespace Ses
theorem set_out{t:T}{c:Int}(h:¬(0≤c∧c<5))(s:S):t.set c s=t:=by
 unfold T.set
 rw[if_neg (by omega),if_neg (by omega),if_neg (by omega),if_neg (by omega),if_neg (by omega)]
theorem fit_set{t:T}{c:Int}{s:S}(h:Fit t)(hs:s.p.v.f<18446744073709551616):Fit (t.set c s):=fun d hd=>by
 by_cases hc:0≤c∧c<5
 ·by_cases e:d=c
  ·rw[e,get_set hc];exact hs
  ·rw[get_ne hc hd e];exact h d hd
 ·rw[set_out hc];exact h d hd
theorem fit_get{t:T}(h:Fit t)(c:Int):(t.get c).p.v.f<18446744073709551616:=by
 by_cases hc:0≤c∧c<5
 ·exact h c hc
 ·unfold T.get
  rw[if_neg (by omega),if_neg (by omega),if_neg (by omega),if_neg (by omega),if_neg (by omega)]
  decide
theorem fit_open{t:T}(h:Fit t)(r:Rf):Fit (openT t r):=by
 unfold openT
 split
 ·refine fit_set h ?_
  unfold openS
  split
  ·show 0<_;decide
  ·show 0<_;decide
 ·exact h
theorem fit_beg{t:T}(h:Fit t)(r:Rf):Fit (begT t r):=by
 unfold begT
 split
 ·exact fit_set h (by show 0<_;decide)
 ·exact h
theorem fit_end{t:T}(h:Fit t)(r:Rf){x:Sto.Rp}(hx:x.v.f<18446744073709551616):Fit (endT t r x):=by
 unfold endT
 split
 ·exact fit_set h hx
 ·exact h
theorem fit_close{t:T}(h:Fit t)(c:Int):Fit (closeT t c):=by
 unfold closeT
 split
 ·refine fit_set h ?_
  unfold closeS
  split
  ·exact fit_get h c
  ·show 0<_;decide
 ·exact h
def t0:T:=⟨z,z,z,z,z⟩
def t1:T:=⟨⟨true,1,0,true,Sto.rz⟩,z,z,z,z⟩
def t2:T:=⟨⟨true,1,1,false,Sto.rz⟩,z,z,z,z⟩
theorem fit_0:Fit t0:=fun c hc=>by rcases cases5 hc with rfl|rfl|rfl|rfl|rfl<;>decide
end Ses
end
section
namespace Ap
open Ses
def Hd(t:T)(r:Rf):Prop:=(t.get r.c).live=true∧(t.get r.c).ep=r.e∧r.r≤(t.get r.c).rq∧1≤r.r
instance (t:T) (r:Rf):Decidable (Hd t r):=by unfold Hd;infer_instance
def opn(s:S):Bool:=decide (0<s.ep)&&!s.dn
def cnt(l:List Rf)(c:Int):Nat:=l.countP fun x=>decide (x.c=c)
theorem cnt_append(l m:List Rf)(c:Int):cnt (l++m) c=cnt l c+cnt m c:=List.countP_append ..
theorem cnt_cons(r:Rf)(l:List Rf)(c:Int):cnt (r::l) c=cnt l c+if r.c=c then 1 else 0:=by
 unfold cnt
 rw[List.countP_cons]
 simp
theorem cnt_perm{l m:List Rf}(h:l.Perm m)(c:Int):cnt l c=cnt m c:=h.countP_eq _
theorem cnt_zero{l:List Rf}{c:Int}(h:cnt l c=0){r:Rf}(hr:r∈l):¬r.c=c:=fun e=>by
 have:=List.countP_eq_zero.1 h r hr
 simp[e] at this
theorem cnt_no{l:List Rf}{c:Int}(h:∀r∈l,¬r.c=c):cnt l c=0:=List.countP_eq_zero.2 fun r hr=>by simp[h r hr]
theorem cnt_but{l:List Rf}{c q:Int}(h:¬c=q):cnt (l.filter fun x=>!decide (x.c=q)) c=cnt l c:=by
 unfold cnt
 rw[List.countP_filter]
 refine List.countP_congr fun x _=>?_
 simp only[Bool.and_eq_true,decide_eq_true_eq,Bool.not_eq_true',decide_eq_false_iff_not]
 constructor
 ·exact fun g=>g.1
 ·intro g
  exact⟨g,fun e=>h (by omega)⟩
theorem cnt_but_self{l:List Rf}{q:Int}:cnt (l.filter fun x=>!decide (x.c=q)) q=0:=cnt_no fun r hr=>by
 have:=(List.mem_filter.1 hr).2
 simpa using this
theorem look_other{t:T}{c:Int}{s:S}{r:Rf}(hc:0≤c∧c<5)(h1:Right t)(h2:Right (t.set c s))(hn:¬r.c=c):Ses.look (t.set c s) r=Ses.look t r:=by
 by_cases hk:Lck.ok r
 ·unfold Ses.look
  rw[if_pos ⟨hk,h2⟩,if_pos ⟨hk,h1⟩,get_ne hc (ok_c hk) hn]
 ·rw[look_bad fun g=>hk g.1,look_bad fun g=>hk g.1]
theorem hd_other{t:T}{c:Int}{s:S}{r:Rf}(hc:0≤c∧c<5)(hr:0≤r.c∧r.c<5)(hn:¬r.c=c):Hd (t.set c s) r↔Hd t r:=by
 unfold Hd
 rw[get_ne hc hr hn]
theorem waits_hd{t:T}{r:Rf}(h:Ses.look t r=3):(0≤r.c∧r.c<5)∧Hd t r∧(t.get r.c).dn=false∧r.r=(t.get r.c).rq∧opn (t.get r.c)=true:=by
 obtain⟨hk,hR,hl⟩:=look_in h (by decide)
 obtain⟨h1,h2,h3⟩:=waits_is hl
 have he:1≤r.e:=hk.2.2.1
 rcases(one_pos (right_one hR (ok_c hk)) (by omega)).1 with g|⟨_,g2,g⟩
 ·rw[h3] at g;cases g
 ·refine⟨ok_c hk,⟨g,h1.symm,by omega,by omega⟩,h3,h2,?_⟩
  unfold opn
  rw[h3,decide_eq_true (by omega)]
  rfl
theorem look_3{t:T}{r:Rf}(hk:Lck.ok r)(hR:Right t)(h1:r.e=(t.get r.c).ep)(h2:r.r=(t.get r.c).rq)(h3:(t.get r.c).dn=false):Ses.look t r=3:=by
 unfold Ses.look
 rw[if_pos ⟨hk,hR⟩]
 unfold lookS
 rw[if_neg (by omega),if_neg (by omega),if_pos h2,h3]
 rfl
structure J(t:T)(W P H:List Rf):Prop where
 ok:Right t
 w:∀r∈W++P,Ses.look t r=3
 p:∀c:Int,0≤c∧c<5→cnt (W++P) c=if opn (t.get c)=true then 1 else 0
 h:∀r∈H,(0≤r.c∧r.c<5)∧Hd t r∧(r.r=(t.get r.c).rq→(t.get r.c).dn=false→r∈P)
section
variable {t:T}{W P H W' P' H':List Rf}{r:Rf}{c:Int}
theorem J.range(j:J t W P H)(hr:r∈W++P):0≤r.c∧r.c<5:=(waits_hd (j.w r hr)).1
theorem J.none(j:J t W P H)(hc:0≤c∧c<5)(h:opn (t.get c)=false)(hr:r∈W++P):¬r.c=c:=
 cnt_zero (by rw[j.p c hc,h];rfl) hr
theorem J.perm(j:J t W P H)(hp:(W'++P').Perm (W++P))(hh:∀r∈H',(r∈H∧(r∈P→r∈P'))∨r∈P'):J t W' P' H':=by
 refine⟨j.ok,fun r hr=>j.w r (hp.mem_iff.1 hr),fun c hc=>by rw[cnt_perm hp];exact j.p c hc,fun r hr=>?_⟩
 rcases hh r hr with ⟨h1,h2⟩|h1
 ·obtain⟨a,b,d⟩:=j.h r h1
  exact⟨a,b,fun e1 e2=>h2 (d e1 e2)⟩
 ·obtain⟨a,b,_⟩:=waits_hd (j.w r (hp.mem_iff.1 (List.mem_append.2 (.inr h1))))
  exact⟨a,b,fun _ _=>h1⟩
theorem fresh_parts(hl:Ses.look t r=1)(h0:¬r.r=0):Lck.ok r∧Right t∧r.e=(t.get r.c).ep∧r.r=(t.get r.c).rq+1∧(t.get r.c).live=true∧(t.get r.c).dn=true:=by
 obtain⟨hk,hR,hs⟩:=look_in hl (by decide)
 rcases fresh_is hs with ⟨g,_⟩|⟨g1,g2,g3,g4⟩
 ·exact absurd g h0
 ·exact⟨hk,hR,g1,g2,g3,g4⟩
theorem J.fresh_not(j:J t W P H)(hl:Ses.look t r=1)(h0:¬r.r=0):r ∉ H:=fun h=>by
 obtain⟨_,_,_,g,_,_⟩:=fresh_parts hl h0
 have:=(j.h r h).2.1.2.2.1
 omega
theorem J.begin(j:J t W P H)(hl:Ses.look t r=1)(h0:¬r.r=0):J (begT t r) W (P++[r]) H:=by
 obtain⟨hk,hR,g1,g2,g3,g4⟩:=fresh_parts hl h0
 have hc:=ok_c hk
 have hR2:=beg_right j.ok r
 have e:begT t r=t.set r.c { t.get r.c with rq:=r.r,dn:=false,p:=Sto.rz }:=if_pos ⟨hl,h0⟩
 have ho:opn (t.get r.c)=false:=by unfold opn;rw[g4];simp
 have he:1≤r.e:=hk.2.2.1
 rw[e] at hR2 ⊢
 refine⟨hR2,fun q hq=>?_,fun c hc2=>?_,fun q hq=>?_⟩
 ·rw[← List.append_assoc] at hq
  rcases List.mem_append.1 hq with hq|hq
  ·rw[look_other hc j.ok hR2 (j.none hc ho hq)]
   exact j.w q hq
  ·rw[List.mem_singleton.1 hq]
   refine look_3 hk hR2 ?_ ?_ ?_<;>rw[get_set hc]
   exact g1
 ·rw[← List.append_assoc,cnt_append,j.p c hc2]
  by_cases e2:c=r.c
  ·subst e2
   rw[get_set hc,ho]
   unfold cnt opn
   rw[decide_eq_true (by show 0<(t.get r.c).ep;omega)]
   simp
  ·rw[get_ne hc hc2 e2]
   have:cnt [r] c=0:=cnt_no fun x hx=>by rw[List.mem_singleton.1 hx];exact fun g=>e2 g.symm
   omega
 ·obtain⟨a,b,d⟩:=j.h q hq
  by_cases e2:q.c=r.c
  ·obtain⟨b1,b2,b3,b4⟩:=b
   rw[e2] at b1 b2 b3
   refine⟨a,⟨?_,?_,?_,b4⟩,fun f1 f2=>?_⟩
   ·rw[e2,get_set hc];exact b1
   ·rw[e2,get_set hc];exact b2
   ·rw[e2,get_set hc];show q.r≤r.r;omega
   ·rw[e2,get_set hc] at f1
    exfalso
    have:q.r=r.r:=f1
    omega
  ·refine⟨a,(hd_other hc a e2).2 b,fun f1 f2=>?_⟩
   rw[get_ne hc a e2] at f1 f2
   exact List.mem_append.2 (.inl (d f1 f2))
theorem J.end_(j:J t W (r::P) H){x:Sto.Rp}(hx:Sto.rep x=true):J (endT t r x) W P H:=by
 have hl:Ses.look t r=3:=j.w r (List.mem_append.2 (.inr (List.mem_cons_self ..)))
 obtain⟨hc,hd,g3,g4,ho⟩:=waits_hd hl
 have hR2:=end_right j.ok r x
 have e:endT t r x=t.set r.c { t.get r.c with dn:=true,p:=x }:=if_pos ⟨hl,hx⟩
 rw[e] at hR2 ⊢
 have h1:cnt (W++P) r.c=0:=by
  have:=j.p r.c hc
  rw[ho,cnt_append,cnt_cons,if_pos rfl,if_pos rfl] at this
  rw[cnt_append]
  omega
 refine⟨hR2,fun q hq=>?_,fun c hc2=>?_,fun q hq=>?_⟩
 ·rw[look_other hc j.ok hR2 (cnt_zero h1 hq)]
  refine j.w q ?_
  rcases List.mem_append.1 hq with hq|hq
  ·exact List.mem_append.2 (.inl hq)
  ·exact List.mem_append.2 (.inr (List.mem_cons_of_mem _ hq))
 ·by_cases e2:c=r.c
  ·subst e2
   rw[h1,get_set hc]
   unfold opn
   simp
  ·rw[get_ne hc hc2 e2,← j.p c hc2,cnt_append,cnt_append,cnt_cons,if_neg (fun g=>e2 g.symm)]
   rfl
 ·obtain⟨a,b,d⟩:=j.h q hq
  by_cases e2:q.c=r.c
  ·obtain⟨b1,b2,b3,b4⟩:=b
   rw[e2] at b1 b2 b3
   refine⟨a,⟨?_,?_,?_,b4⟩,fun f1 f2=>?_⟩
   ·rw[e2,get_set hc];exact b1
   ·rw[e2,get_set hc];exact b2
   ·rw[e2,get_set hc];exact b3
   ·rw[e2,get_set hc] at f2
    cases f2
  ·refine⟨a,(hd_other hc a e2).2 b,fun f1 f2=>?_⟩
   rw[get_ne hc a e2] at f1 f2
   rcases List.mem_cons.1 (d f1 f2) with g|g
   ·exact absurd (congrArg Rf.c g) e2
   ·exact g
def ends(t:T):List (Rf×Sto.Rp)→T
 | []=>t
 | y::m=>ends (endT t y.1 y.2) m
theorem J.ends:∀{Y:List (Rf×Sto.Rp)} {t:T},J t W (Y.map (·.1)++P) H→(∀y∈Y,Sto.rep y.2=true)→J (Ap.ends t Y) W P H
 | [],t,j,_=>j
 | y::m,t,j,hy=>J.ends (Y:=m) (t:=endT t y.1 y.2) (J.end_ j (hy y (List.mem_cons_self ..))) fun z hz=>hy z (List.mem_cons_of_mem _ hz)
theorem J.close(j:J t W P H)(hc:0≤c∧c<5)(hl:(t.get c).live=true):
  J (closeT t c) (W.filter fun x=>!decide (x.c=c)) (P.filter fun x=>!decide (x.c=c)) (H.filter fun x=>!decide (x.c=c)):=by
 have hR2:=close_right j.ok c
 have e:closeT t c=t.set c (closeS (t.get c)):=if_pos ⟨hc.1,hc.2,j.ok,hl⟩
 have hd:(closeS (t.get c)).dn=true:=by
  unfold closeS
  split
  ·assumption
  ·rfl
 rw[e] at hR2 ⊢
 refine⟨hR2,fun q hq=>?_,fun c2 hc2=>?_,fun q hq=>?_⟩
 ·rw[← List.filter_append] at hq
  obtain⟨h1,h2⟩:=List.mem_filter.1 hq
  rw[look_other hc j.ok hR2 (by simpa using h2)]
  exact j.w q h1
 ·rw[← List.filter_append]
  by_cases e2:c2=c
  ·subst e2
   rw[cnt_but_self,get_set hc]
   unfold opn
   rw[hd]
   simp
  ·rw[cnt_but e2,get_ne hc hc2 e2]
   exact j.p c2 hc2
 ·obtain⟨h1,h2⟩:=List.mem_filter.1 hq
  obtain⟨a,b,d⟩:=j.h q h1
  have e2:¬q.c=c:=by simpa using h2
  refine⟨a,(hd_other hc a e2).2 b,fun f1 f2=>?_⟩
  rw[get_ne hc a e2] at f1 f2
  exact List.mem_filter.2 ⟨d f1 f2,h2⟩
theorem J.dead(j:J t W P H)(hl:(t.get c).live=false):(∀q∈W++P,¬q.c=c)∧∀q∈H,¬q.c=c:=by
 refine⟨fun q hq e=>?_,fun q hq e=>?_⟩
 ·have:=(waits_hd (j.w q hq)).2.1.1
  rw[e,hl] at this
  cases this
 ·have:=(j.h q hq).2.1.1
  rw[e,hl] at this
  cases this
theorem J.open_(j:J t W P H)(hl:Ses.look t r=1)(h0:r.r=0)(hd:(t.get r.c).live=false):J (openT t r) W P H:=by
 obtain⟨hk,_,_⟩:=look_in hl (by decide)
 have hc:=ok_c hk
 have hR2:=open_right j.ok r
 have e:openT t r=t.set r.c (openS t r):=if_pos ⟨hl,h0⟩
 have hdn:(openS t r).dn=true:=by unfold openS;split<;>rfl
 obtain⟨n1,n2⟩:=j.dead hd
 have ho:opn (t.get r.c)=false:=by
  unfold opn
  by_cases he:(t.get r.c).ep=0
  ·rw[he];rfl
  ·rcases(one_pos (right_one j.ok hc) he).1 with g|⟨_,_,g⟩
   ·rw[g];simp
   ·rw[hd] at g;cases g
 rw[e] at hR2 ⊢
 refine⟨hR2,fun q hq=>?_,fun c2 hc2=>?_,fun q hq=>?_⟩
 ·rw[look_other hc j.ok hR2 (n1 q hq)]
  exact j.w q hq
 ·rw[j.p c2 hc2]
  by_cases e2:c2=r.c
  ·subst e2
   rw[get_set hc,ho]
   unfold opn
   rw[hdn]
   simp
  ·rw[get_ne hc hc2 e2]
 ·obtain⟨a,b,d⟩:=j.h q hq
  have e2:=n2 q hq
  refine⟨a,(hd_other hc a e2).2 b,fun f1 f2=>?_⟩
  rw[get_ne hc a e2] at f1 f2
  exact d f1 f2
theorem J.mine(j:J t W P H)(hr:r∈W++P∨r∈H):r.e=(t.get r.c).ep:=by
 rcases hr with hr|hr
 ·exact(waits_hd (j.w r hr)).2.1.2.1.symm
 ·exact(j.h r hr).2.1.2.1.symm
end
end Ap
end
section
namespace Ap
open Sto
def wts(o:Ob):List Rf:=if o.kind=3 then o.refs.drop 1 else o.refs
def hld(o:Ob):List Rf:=if o.kind=3 then o.refs.take 1 else []
def W(l:List Ob):List Rf:=l.flatMap wts
def H(l:List Ob):List Rf:=l.flatMap hld
theorem clean_refs{o:Ob}(h:One o=true)(h3:¬o.kind=3)(h4:¬o.kind=4):o.refs=[]:=by
 obtain⟨_,b,_⟩:=one_parts h
 obtain⟨_,_,_,_,b4,_,_⟩:=clean_to b
 rcases b4 with g|g
 ·unfold f3 at g
  have:=of_decide_eq_false g
  exact List.length_eq_zero_iff.1 (by omega)
 ·unfold Sto.h3 at g
  have:=of_decide_eq_true g
  omega
theorem refs_right{o:Ob}(h:One o=true):Lck.Right o.refs:=by
 obtain⟨_,_,c⟩:=one_parts h
 by_cases h3:o.kind=3
 ·rw[sound_3 h3] at c;exact of_decide_eq_true c
 by_cases h4:o.kind=4
 ·rw[sound_4 h4,Bool.and_eq_true] at c;exact(of_decide_eq_true c.1).2.2.2
 rw[clean_refs h h3 h4]
 exact Lck.right_nil
theorem gate_right{o:Ob}(h:One o=true)(h4:o.kind=4):Gt.Right o.cap o.refs:=by
 obtain⟨_,_,c⟩:=one_parts h
 rw[sound_4 h4,Bool.and_eq_true] at c
 exact of_decide_eq_true c.1
theorem refs_ok{l:List Rf}(h:Lck.Right l){r:Rf}(hr:r∈l):Lck.ok r:=by
 obtain⟨i,hi,e⟩:=List.getElem_of_mem hr
 exact(h i hi r (by rw[List.getElem?_eq_getElem hi,e])).1
theorem H_ok{l:List Ob}(h:Sto.Right l){r:Rf}(hr:r∈H l):Lck.ok r:=by
 obtain⟨o,ho,hr⟩:=List.mem_flatMap.1 hr
 refine refs_ok (refs_right (h.ok o ho)) ?_
 unfold hld at hr
 split at hr
 ·exact List.mem_of_mem_take hr
 ·cases hr
def nm(r:Rf)(x:Rf):Bool:=!decide (Lck.mine x r)
theorem dr_moves{o:Ob}(h:One o=true)(r:Rf):(wts (dr o r)++(drO o r).map (·.r)).Perm ((wts o).filter (nm r))∧∀x∈hld (dr o r),(x∈hld o∧nm r x=true)∨x∈(drO o r).map (·.r):=by
 by_cases h3:o.kind=3
 ·have hR:=refs_right h
  have e1:dr o r = { o with refs:=Lck.drL o.refs r }:=if_pos h3
  have e2:drO o r=held (Lck.drN o.refs r) (Lck.drS o.refs r):=if_pos h3
  have e3:wts (dr o r)=(Lck.drL o.refs r).drop 1:=by rw[e1];exact if_pos h3
  have e4:hld (dr o r)=(Lck.drL o.refs r).take 1:=by rw[e1];exact if_pos h3
  have e5:wts o=o.refs.drop 1:=if_pos h3
  have e6:hld o=o.refs.take 1:=if_pos h3
  rw[e2,e3,e4,e5,e6]
  generalize o.refs=l at *
  clear e1 e2 e3 e4 e5 e6 h h3
  have eL:Lck.drL l r=l.filter (nm r):=if_pos hR
  have ew:Lck.wo l r=l.filter (nm r):=rfl
  match l,hR with
  | [],hR=>
   have:=Lck.dr_none (r:=r) hR rfl
   rw[this.2.2,eL]
   exact⟨List.Perm.refl _,fun x hx=>by cases hx⟩
  | a::m,hR=>
   rw[eL]
   by_cases ha:Lck.mine a r
   ·have ef:(a::m).filter (nm r)=m.filter (nm r):=List.filter_cons_of_neg (by unfold nm;rw[decide_eq_true ha];decide)
    rw[ef]
    cases hm:m.filter (nm r) with
    | nil=>
     have:=Lck.dr_none (r:=r) hR (by rw[ew,ef,hm];rfl)
     rw[this.2.2,List.drop_succ_cons,List.drop_zero,hm]
     exact⟨List.Perm.refl _,fun x hx=>by cases hx⟩
    | cons b q=>
     have hb:nm r b=true:=(List.mem_filter.1 (by rw[hm];exact List.mem_cons_self ..:b∈m.filter (nm r))).2
     have hne:¬b=a:=fun e=>by
      rw[e] at hb
      unfold nm at hb
      rw[decide_eq_true ha] at hb
      cases hb
     obtain⟨_,g2,g3⟩:=Lck.dr_new (r:=r) (x:=b) (y:=a) hR (by rw[ew,ef,hm];rfl) rfl hne
     rw[g2,g3,List.drop_succ_cons,List.drop_zero,List.drop_succ_cons,List.drop_zero,hm]
     refine⟨?_,fun x hx=>.inr ?_⟩
     ·exact(List.perm_append_comm (l₁:=q) (l₂:=[b]))
     ·simpa [held] using hx
   ·have hna:nm r a=true:=by unfold nm;rw[decide_eq_false ha];rfl
    have ef:(a::m).filter (nm r)=a::m.filter (nm r):=List.filter_cons_of_pos hna
    rw[ef]
    have:=Lck.dr_same (r:=r) (x:=a) (y:=a) hR (by rw[ew,ef];rfl) rfl rfl
    rw[this.2.2,List.drop_succ_cons,List.drop_zero,List.drop_succ_cons,List.drop_zero]
    refine⟨?_,fun x hx=>.inl ?_⟩
    ·show(m.filter (nm r)++[]).Perm _
     rw[List.append_nil]
    ·have:x=a:=by simpa using hx
     rw[this]
     exact⟨by simp,hna⟩
 by_cases h4:o.kind=4
 ·have e1:dr o r = { o with refs:=Gt.drL o.cap o.refs r }:=by unfold dr;rw[if_neg h3,if_pos h4]
  have e2:drO o r=[]:=if_neg h3
  have e3:wts (dr o r)=Gt.drL o.cap o.refs r:=by rw[e1];exact if_neg h3
  have e4:hld (dr o r)=[]:=by rw[e1];exact if_neg h3
  have e5:wts o=o.refs:=if_neg h3
  rw[e2,e3,e4,e5,Gt.dr_yes (gate_right h h4)]
  refine⟨?_,fun x hx=>by cases hx⟩
  show(Lck.wo o.refs r++[]).Perm _
  rw[List.append_nil]
  exact List.Perm.refl _
 ·have e1:dr o r=o:=by unfold dr;rw[if_neg h3,if_neg h4]
  have e2:drO o r=[]:=if_neg h3
  have e5:wts o=[]:=by unfold wts;rw[if_neg h3];exact clean_refs h h3 h4
  have e4:hld o=[]:=if_neg h3
  rw[e1,e2,e5,e4]
  exact⟨List.Perm.refl _,fun x hx=>by cases hx⟩
theorem drs_moves:∀{l:List Ob},(∀o∈l,One o=true)→∀r:Rf,(W (l.map fun o=>dr o r)++(l.flatMap fun o=>drO o r).map (·.r)).Perm ((W l).filter (nm r))∧∀x∈H (l.map fun o=>dr o r),(x∈H l∧nm r x=true)∨x∈(l.flatMap fun o=>drO o r).map (·.r)
 | [],_,r=>⟨List.Perm.refl _,fun x hx=>by cases hx⟩
 | o::l,h,r=>by
  obtain⟨a1,a2⟩:=dr_moves (h o (List.mem_cons_self ..)) r
  obtain⟨b1,b2⟩:=drs_moves (l:=l) (fun x hx=>h x (List.mem_cons_of_mem _ hx)) r
  constructor
  ·show((wts (dr o r)++W (l.map fun o=>dr o r))++(drO o r++l.flatMap fun o=>drO o r).map (·.r)).Perm ((wts o++W l).filter (nm r))
   rw[List.map_append,List.filter_append]
   refine List.Perm.trans ?_ (a1.append b1)
   rw[List.append_assoc,List.append_assoc]
   refine List.Perm.append_left _ ?_
   rw[← List.append_assoc,← List.append_assoc]
   exact List.Perm.append_right _ List.perm_append_comm
  ·intro x hx
   show(x∈hld o++H l∧_)∨x∈(drO o r++l.flatMap fun o=>drO o r).map (·.r)
   rw[List.map_append,List.mem_append,List.mem_append]
   rcases List.mem_append.1 (show x∈hld (dr o r)++H (l.map fun o=>dr o r) from hx) with hx|hx
   ·rcases a2 x hx with ⟨g1,g2⟩|g
    ·exact .inl ⟨.inl g1,g2⟩
    ·exact .inr (.inl g)
   ·rcases b2 x hx with ⟨g1,g2⟩|g
    ·exact .inl ⟨.inr g1,g2⟩
    ·exact .inr (.inr g)
theorem drop_moves{l:List Ob}(h:Sto.Right l)(r:Rf):(W (dropL l r)++(dropO l r).map (·.r)).Perm ((W l).filter (nm r))∧∀x∈H (dropL l r),(x∈H l∧nm r x=true)∨x∈(dropO l r).map (·.r):=by
 have e1:dropL l r=l.map fun o=>dr o r:=if_pos h
 have e2:dropO l r=l.flatMap fun o=>drO o r:=if_pos h
 rw[e1,e2]
 exact drs_moves h.ok r
theorem put_flat{α:Type}(f:Ob→List α){l:List Ob}(h:Up l)(k:ByteArray)(o:Ob):((put l k o).flatMap f).Perm (f o++(wo l k).flatMap f):=by
 unfold put
 rw[← (wo_parts h k).1,List.flatMap_append,List.flatMap_append,List.flatMap_append,List.append_assoc]
 have:[o].flatMap f=f o:=by simp
 rw[this,← List.append_assoc,← List.append_assoc]
 exact List.Perm.append_right _ List.perm_append_comm
theorem own_flat{α:Type}(f:Ob→List α){l:List Ob}(h:Up l){k:ByteArray}{o:Ob}(ho:fnd l k=some o):(l.flatMap f).Perm (f o++(wo l k).flatMap f):=by
 have:=put_flat f h k o
 rw[put_self h ho] at this
 exact this
theorem fnd_not:∀{l:List Ob} {k:ByteArray},fnd l k=none→∀x∈l,¬x.name=k
 | [],_,_,_,hx,_=>by cases hx
 | y::m,k,ho,x,hx,e=>by
  unfold fnd at ho
  split at ho
  ·cases ho
  next g=>
   rcases List.mem_cons.1 hx with h|hx
   ·exact g (h▸e)
   ·exact fnd_not ho x hx e
theorem none_flat{l:List Ob}{k:ByteArray}(ho:fnd l k=none):wo l k=l:=wo_above (fnd_not ho)
def Moves(w h w' h':List Rf)(r:Rf)(later:Bool)(y:List Rf):Prop:=
 (later=false→(w'++y).Perm w∧∀x∈h',x∈h∨x∈y∨x=r)∧(later=true→y=[]∧w'.Perm (w++[r])∧∀x∈h',x∈h)
theorem moves_same(w h:List Rf)(r:Rf):Moves w h w h r false []:=⟨fun _=>⟨by rw[List.append_nil],fun x hx=>.inl hx⟩,fun e=>by cases e⟩
theorem take_moves{o:Ob}(h:One o=true)(h3:o.kind=3)(r:Rf):Moves (wts o) (hld o) (wts (take o r).o) (hld (take o r).o) r (take o r).later ((take o r).outs.map (·.r)):=by
 have hR:=refs_right h
 have e1:wts (take o r).o=(Lck.tkL o.refs r).drop 1:=if_pos h3
 have e2:hld (take o r).o=(Lck.tkL o.refs r).take 1:=if_pos h3
 have e3:wts o=o.refs.drop 1:=if_pos h3
 have e4:hld o=o.refs.take 1:=if_pos h3
 have e5:(take o r).later=(decide (Lck.tkE o.refs r=0)&&!Lck.tkH o.refs r):=rfl
 have e6:(take o r).outs.map (·.r)=[]:=rfl
 rw[e1,e2,e3,e4,e5,e6]
 generalize o.refs=l at *
 clear e1 e2 e3 e4 e5 e6 h h3
 by_cases hk:Lck.ok r
 case neg=>
  obtain⟨g1,g2,g3⟩:=Lck.tk_bad (l:=l) (r:=r) (fun g=>hk g.2)
  rw[g1,g2,g3]
  exact moves_same _ _ _
 by_cases ha:Lck.asked l r.c=true
 ·obtain⟨g1,g2,g3⟩:=Lck.tk_held hR hk ha
  rw[g1,g2,g3]
  exact moves_same _ _ _
 ·obtain⟨g1,g2,g3⟩:=Lck.tk_ok hR hk (Bool.eq_false_iff.2 ha)
  rw[g1,g2,g3]
  cases l with
  | nil=>
   refine⟨fun _=>⟨List.Perm.refl _,fun x hx=>?_⟩,fun e=>by cases e⟩
   exact .inr (.inr (by simpa using hx))
  | cons a m=>
   refine⟨fun e=>(by cases e),fun _=>⟨rfl,?_,fun x hx=>?_⟩⟩
   ·show(m++[r]).Perm (m++[r])
    exact List.Perm.refl _
   ·simpa using hx
theorem free_moves{o:Ob}(h:One o=true)(h3:o.kind=3)(r:Rf):Moves (wts o) (hld o) (wts (free o r).o) (hld (free o r).o) r (free o r).later ((free o r).outs.map (·.r)):=by
 have hR:=refs_right h
 have e1:wts (free o r).o=(Lck.frL o.refs r).drop 1:=if_pos h3
 have e2:hld (free o r).o=(Lck.frL o.refs r).take 1:=if_pos h3
 have e3:wts o=o.refs.drop 1:=if_pos h3
 have e4:hld o=o.refs.take 1:=if_pos h3
 have e5:(free o r).later=false:=rfl
 have e6:(free o r).outs=held (Lck.frN o.refs r) (Lck.frS o.refs r):=rfl
 rw[e1,e2,e3,e4,e5,e6]
 generalize o.refs=l at *
 clear e1 e2 e3 e4 e5 e6 h h3
 cases l with
 | nil=>
  obtain⟨_,g2,g3,g4⟩:=Lck.fr_none (r:=r) hR rfl
  rw[g2,g4]
  exact moves_same _ _ _
 | cons a m=>
  by_cases ha:Lck.mine a r
  case neg=>
   obtain⟨_,g2,g3,g4⟩:=Lck.fr_other (r:=r) hR rfl ha
   rw[g2,g4]
   exact moves_same _ _ _
  cases m with
  | nil=>
   obtain⟨_,g2,g3,g4⟩:=Lck.fr_last (r:=r) hR rfl ha rfl
   rw[g2,g4]
   exact⟨fun _=>⟨List.Perm.refl _,fun x hx=>by cases hx⟩,fun e=>by cases e⟩
  | cons b q=>
   obtain⟨_,g2,g3,g4⟩:=Lck.fr_next (r:=r) (x:=a) (y:=b) hR rfl ha rfl
   rw[g2,g3,g4]
   refine⟨fun _=>⟨?_,fun x hx=>.inr (.inl ?_)⟩,fun e=>by cases e⟩
   ·show(q++[b]).Perm (b::q)
    exact(List.perm_append_comm (l₁:=q) (l₂:=[b]))
   ·simpa [held] using hx
theorem wait_moves{o:Ob}(h:One o=true)(h4:o.kind=4)(r:Rf):Moves (wts o) (hld o) (wts (wait o r).o) (hld (wait o r).o) r (wait o r).later ((wait o r).outs.map (·.r)):=by
 have hR:=gate_right h h4
 have h3:¬o.kind=3:=by omega
 have ew:∀m d,wts { o with refs:=m,round:=d } = m:=fun m d=>if_neg h3
 have eh:∀m d,hld { o with refs:=m,round:=d } = []:=fun m d=>if_neg h3
 have e0:wts o=o.refs:=if_neg h3
 have e1:hld o=[]:=if_neg h3
 have same:∀e:Int,¬e=0→Gt.wtE o.cap o.refs r=e→Moves (wts o) (hld o) (wts (wait o r).o) (hld (wait o r).o) r (wait o r).later ((wait o r).outs.map (·.r)):=fun e he g=>by
  obtain⟨g1,g2,g3⟩:=Gt.wt_no g he
  have:wait o r=⟨{ o with refs:=o.refs },err e,false,[]⟩:=by
   unfold wait
   rw[g3,g2,g1,decide_eq_false he]
   rfl
  rw[this]
  exact moves_same _ _ _
 by_cases hk:Lck.ok r
 case neg=>exact same 1 (by decide) (Gt.wt_bad (fun g=>hk g.2)).1
 by_cases ha:Lck.asked o.refs r.c=true
 ·exact same 11 (by decide) (Gt.wt_held hR hk ha).1
 have ha:=Bool.eq_false_iff.2 ha
 by_cases hf:(o.refs.length:Int)+1=o.cap
 ·obtain⟨g1,g2,g3⟩:=Gt.wt_full hR hk ha hf
  have hlen:(o.refs++[r]).length=o.refs.length+1:=by simp
  unfold wait
  rw[g1,g2,g3,if_neg (by rw[hlen];omega)]
  split
  ·exact moves_same _ _ _
  ·refine⟨fun _=>⟨?_,fun x hx=>?_⟩,fun e=>by cases e⟩
   ·show(wts { o with refs:=[],round:=o.round+1 } ++ (thru ((o.refs++[r]).take ((o.refs++[r]).length-1)) ⟨0,num o.round⟩).map (·.r)).Perm _
    rw[ew,e0,hlen,Nat.add_sub_cancel,List.take_left]
    unfold thru
    rw[List.map_map]
    show([]++o.refs.map id).Perm _
    rw[List.map_id,lnA]
   ·rw[eh] at hx;cases hx
 ·obtain⟨g1,g2,g3⟩:=Gt.wt_more hR hk ha hf
  unfold wait
  rw[g1,g2,g3,if_pos (show([]:List Rf).length=0 from rfl)]
  refine⟨fun e=>(by cases e),fun _=>⟨rfl,?_,fun x hx=>?_⟩⟩
  ·have:wts { o with refs:=o.refs++[r] } = o.refs++[r]:=if_neg h3
   rw[this,e0]
  ·have e:hld { o with refs:=o.refs++[r] } = []:=if_neg h3
   rw[e] at hx;cases hx
theorem act_moves{o:Ob}(h:One o=true)(r:Rf){c:Cmd.C}(hk:4≤c.k∧c.k≤17)(h4:¬c.k=4)(h5:¬c.k=5)(hf:fits c.k o.kind=true):
  Moves (wts o) (hld o) (wts (act o r c).o) (hld (act o r c).o) r (act o r c).later ((act o r c).outs.map (·.r)):=by
 unfold act
 rcases act_kinds hk h4 h5 with k|k|k|k|k|k|k|k|k|k|k|k<;>rw[k] at hf<;>simp only[k]<;>unfold fits at hf<;>simp at hf ⊢
 ·exact moves_same _ _ _
 ·exact moves_same _ _ _
 ·exact moves_same _ _ _
 ·exact moves_same _ _ _
 ·exact moves_same _ _ _
 ·exact moves_same _ _ _
 ·exact take_moves h hf r
 ·exact free_moves h hf r
 ·exact wait_moves h hf r
 ·exact moves_same _ _ _
 ·exact moves_same _ _ _
 ·exact moves_same _ _ _
theorem doo_moves{l:List Ob}(h:Sto.Right l)(r:Rf)(c:Cmd.C):Moves (W l) (H l) (W (doo l r c).l) (H (doo l r c).l) r (doo l r c).later ((doo l r c).outs.map (·.r)):=by
 by_cases hc:chk l r c=0
 case neg=>
  rw[doo_err hc]
  exact moves_same _ _ _
 obtain⟨⟨_,hr,hk⟩,he,hn,ho⟩:=chk_ok hc
 by_cases h4:c.k=4
 ·rw[doo_new hc h4]
  have hf:fnd l c.name=none:=by
   have:=(hn h4).1
   cases hx:fnd l c.name with
   | none=>rfl
   | some x=>rw[hx] at this;cases this
  have e1:wts (fresh c)=[]:=by unfold wts fresh;split<;>rfl
  have e2:hld (fresh c)=[]:=by unfold hld fresh;split<;>rfl
  have p1:=put_flat wts h.up c.name (fresh c)
  have p2:=put_flat hld h.up c.name (fresh c)
  rw[none_flat hf] at p1 p2
  rw[e1] at p1
  rw[e2] at p2
  refine⟨fun _=>⟨?_,fun x hx=>.inl ?_⟩,fun e=>by cases e⟩
  ·show(W (put l c.name (fresh c))++[]).Perm _
   rw[List.append_nil]
   exact p1
  ·exact p2.mem_iff.1 hx
 obtain⟨o,ho1,ho2,ho3⟩:=ho h4
 have hO:=h.ok o (fnd_is ho1).1
 by_cases h5:c.k=5
 ·rw[doo_cut hc h5]
  have hr0:o.refs=[]:=List.length_eq_zero_iff.1 (by have:=fun g=>ho3 ⟨h5,g⟩;omega)
  have e1:wts o=[]:=by unfold wts;rw[hr0];split<;>rfl
  have e2:hld o=[]:=by unfold hld;rw[hr0];split<;>rfl
  have p1:=own_flat wts h.up ho1
  have p2:=own_flat hld h.up ho1
  rw[e1] at p1
  rw[e2] at p2
  refine⟨fun _=>⟨?_,fun x hx=>.inl ?_⟩,fun e=>by cases e⟩
  ·show(W (wo l c.name)++[]).Perm _
   rw[List.append_nil]
   exact p1.symm
  ·exact p2.symm.mem_iff.1 hx
 rw[doo_act hc h4 h5 ho1]
 have p1:=own_flat wts h.up ho1
 have p2:=own_flat hld h.up ho1
 have q1:=put_flat wts h.up c.name (act o r c).o
 have q2:=put_flat hld h.up c.name (act o r c).o
 obtain⟨m1,m2⟩:=act_moves hO r hk h4 h5 ho2
 dsimp only
 refine⟨fun hl=>?_,fun hl=>?_⟩
 ·obtain⟨a,b⟩:=m1 hl
  refine⟨?_,fun x hx=>?_⟩
  ·refine List.Perm.trans ?_ p1.symm
   refine List.Perm.trans (q1.append_right _) ?_
   refine List.Perm.trans ?_ (a.append_right _)
   rw[List.append_assoc,List.append_assoc]
   exact List.Perm.append_left _ List.perm_append_comm
  ·rcases List.mem_append.1 (q2.mem_iff.1 hx) with g|g
   ·rcases b x g with g|g
    ·exact .inl (p2.symm.mem_iff.1 (List.mem_append.2 (.inl g)))
    ·exact .inr g
   ·exact .inl (p2.symm.mem_iff.1 (List.mem_append.2 (.inr g)))
 ·obtain⟨a,b,d⟩:=m2 hl
  refine⟨a,?_,fun x hx=>?_⟩
  ·refine List.Perm.trans q1 ?_
   refine List.Perm.trans (b.append_right _) ?_
   refine List.Perm.trans ?_ (p1.symm.append_right _)
   rw[List.append_assoc,List.append_assoc]
   exact List.Perm.append_left _ List.perm_append_comm
  ·rcases List.mem_append.1 (q2.mem_iff.1 hx) with g|g
   ·exact p2.symm.mem_iff.1 (List.mem_append.2 (.inl (d x g)))
   ·exact p2.symm.mem_iff.1 (List.mem_append.2 (.inr g))
end Ap
end
end Go.Proofs.YtddpmlcpfmmbeaaGreat
