/- What filled returns: which fields of a command aren't zero. No condition but those named. -/
import Derived.Test.YtddpmlcpfmmbeaaGreatTk
import Derived.Test.YtddpmlcpfmmbeaaGreatKAM
import Derived.Test.YtddpmlcpfmmbeaaGreatKAD
import Derived.Test.YtddpmlcpfmmbeaaGreatKAI
import Derived.Test.YtddpmlcpfmmbeaaGreatRows
import Derived.KernelRfl
import Derived.Deep.RegionWith
import Derived.Deep.RegionHeld3
import Derived.Deep.Draws
import Derived.Lib.Hide
set_option linter.unusedSimpArgs false
set_option linter.unusedVariables false
set_option maxRecDepth 100000
set_option maxHeartbeats 25600000
namespace Go.Proofs.YtddpmlcpfmmbeaaGreat
section
namespace Ap
open Sto Ses
theorem look2_is{s:S}{r:Rf}(hs:lookS s r=2):r.e=s.ep∧r.r=s.rq∧s.dn=true:=by
 unfold lookS at hs
 by_cases h1:r.r=0∧s.ep<r.e
 ·rw[if_pos h1] at hs;cases hs
 rw[if_neg h1] at hs
 by_cases h2:r.e≠s.ep∨r.r<s.rq
 ·rw[if_pos h2] at hs;cases hs
 rw[if_neg h2] at hs
 by_cases h3:r.r=s.rq
 ·rw[if_pos h3] at hs
  by_cases h6:s.dn=true
  ·exact⟨by omega,h3,h6⟩
  ·rw[if_neg h6] at hs;cases hs
 rw[if_neg h3] at hs
 by_cases h4:s.live=false
 ·rw[if_pos h4] at hs;cases hs
 rw[if_neg h4] at hs
 split at hs<;>cases hs
theorem look4_is{s:S}{r:Rf}(hs:lookS s r=4):r.e=s.ep∧s.rq<r.r∧s.live=false:=by
 unfold lookS at hs
 by_cases h1:r.r=0∧s.ep<r.e
 ·rw[if_pos h1] at hs;cases hs
 rw[if_neg h1] at hs
 by_cases h2:r.e≠s.ep∨r.r<s.rq
 ·rw[if_pos h2] at hs;cases hs
 rw[if_neg h2] at hs
 by_cases h3:r.r=s.rq
 ·rw[if_pos h3] at hs
  split at hs<;>cases hs
 rw[if_neg h3] at hs
 by_cases h4:s.live=false
 ·exact⟨by omega,by omega,h4⟩
 rw[if_neg h4] at hs
 split at hs<;>cases hs
def Cur(t:T)(y:Ot):Prop:=(0≤y.r.c∧y.r.c<5)∧y.r.e=(t.get y.r.c).ep∧((y.r.r=(t.get y.r.c).rq∧(t.get y.r.c).dn=true∧y.p=(t.get y.r.c).p)∨((t.get y.r.c).rq<y.r.r∧(t.get y.r.c).live=false∧y.p=err 14))
def Old(t:T)(y:Ot):Prop:=(0≤y.r.c∧y.r.c<5)∧(y.r.e<(t.get y.r.c).ep∨(y.r.e=(t.get y.r.c).ep∧y.r.r<(t.get y.r.c).rq))
structure Good(t:T)(O:List Ot):Prop where
 told:∀y∈O,Old t y∨Cur t y
 one:∀y∈O,∀z∈O,y.r=z.r→y.p=z.p
section
variable {t:T}{O:List Ot}{r:Rf}{c:Int}
theorem Good.nil(t:T):Good t []:=⟨fun y hy=>(by cases hy),fun y hy=>(by cases hy)⟩
theorem Good.sub{O':List Ot}(g:Good t O)(h:∀y∈O',y∈O):Good t O':=⟨fun y hy=>g.told y (h y hy),fun y hy z hz=>g.one y (h y hy) z (h z hz)⟩
theorem cur_same{y z:Ot}(hy:Old t y∨Cur t y)(hz:Cur t z)(e:y.r=z.r):y.p=z.p:=by
 obtain⟨_,z1,z2⟩:=hz
 rcases hy with ⟨_,hy⟩|⟨_,y1,y2⟩
 ·rw[e] at hy
  rcases hy with hy|hy
  ·omega
  ·rcases z2 with ⟨z2,_⟩|⟨z2,_⟩<;>omega
 ·rw[e] at y2
  rcases y2 with ⟨a,b,d⟩|⟨a,b,d⟩<;>rcases z2 with ⟨a',b',d'⟩|⟨a',b',d'⟩
  ·rw[d,d']
  ·omega
  ·omega
  ·rw[d,d']
theorem Good.add(g:Good t O){z:Ot}(h:Cur t z):Good t (O++[z]):=by
 refine⟨fun y hy=>?_,fun y hy x hx e=>?_⟩
 ·rcases List.mem_append.1 hy with hy|hy
  ·exact g.told y hy
  ·rw[List.mem_singleton.1 hy];exact .inr h
 ·rcases List.mem_append.1 hy with hy|hy<;>rcases List.mem_append.1 hx with hx|hx
  ·exact g.one y hy x hx e
  ·rw[List.mem_singleton.1 hx] at e ⊢
   exact cur_same (g.told y hy) h e
  ·rw[List.mem_singleton.1 hy] at e ⊢
   exact(cur_same (g.told x hx) h e.symm).symm
  ·rw[List.mem_singleton.1 hy,List.mem_singleton.1 hx]
theorem Good.set(g:Good t O)(hc:0≤c∧c<5){s:S}(h:∀y∈O,y.r.c=c→Old t y∨Cur t y→Old (t.set c s) y∨Cur (t.set c s) y):Good (t.set c s) O:=by
 refine⟨fun y hy=>?_,g.one⟩
 by_cases e:y.r.c=c
 ·exact h y hy e (g.told y hy)
 ·rcases g.told y hy with k|k
  ·exact .inl ⟨k.1,by rw[get_ne hc k.1 e];exact k.2⟩
  ·exact .inr ⟨k.1,by rw[get_ne hc k.1 e];exact k.2⟩
theorem Good.beg(g:Good t O)(hl:Ses.look t r=1)(h0:¬r.r=0):Good (begT t r) O:=by
 obtain⟨hk,hR,g1,g2,g3,g4⟩:=fresh_parts hl h0
 have hc:=ok_c hk
 have e:begT t r=t.set r.c { t.get r.c with rq:=r.r,dn:=false,p:=rz }:=if_pos ⟨hl,h0⟩
 rw[e]
 refine g.set hc fun y hy e2 k=>.inl ?_
 rcases k with ⟨a,k⟩|⟨a,k1,k2⟩
 ·refine⟨a,?_⟩
  rw[e2] at k ⊢
  rw[get_set hc]
  show y.r.e<(t.get r.c).ep∨(y.r.e=(t.get r.c).ep∧y.r.r<r.r)
  omega
 ·refine⟨a,.inr ?_⟩
  rw[e2] at k1 k2 ⊢
  rw[get_set hc]
  refine⟨k1,?_⟩
  show y.r.r<r.r
  rcases k2 with ⟨k2,_⟩|⟨_,k3,_⟩
  ·omega
  ·rw[g3] at k3;cases k3
theorem Good.end_(g:Good t O){x:Rp}(hl:Ses.look t r=3)(hx:rep x=true):Good (endT t r x) (O++[⟨r,x⟩]):=by
 obtain⟨hc,hd,g3,g4,ho⟩:=waits_hd hl
 have e:endT t r x=t.set r.c { t.get r.c with dn:=true,p:=x }:=if_pos ⟨hl,hx⟩
 have g2:Good (endT t r x) O:=by
  rw[e]
  refine g.set hc fun y hy e2 k=>?_
  rcases k with ⟨a,k⟩|⟨a,k1,k2⟩
  ·refine .inl ⟨a,?_⟩
   rw[e2] at k ⊢
   rw[get_set hc]
   exact k
  ·rw[e2] at k1 k2
   rcases k2 with ⟨_,k2,_⟩|⟨_,k3,_⟩
   ·rw[g3] at k2;cases k2
   ·rw[hd.1] at k3;cases k3
 refine g2.add ⟨hc,?_,.inl ⟨?_,?_,?_⟩⟩<;>(show _=_;rw[e,get_set hc])
 ·exact hd.2.1.symm
 ·exact g4
theorem Good.close(g:Good t O)(hR:Ses.Right t)(hc:0≤c∧c<5)(hl:(t.get c).live=true):Good (closeT t c) (O++(if (t.get c).dn=true then [] else [⟨rf t c,err 14⟩])):=by
 have e:closeT t c=t.set c (closeS (t.get c)):=if_pos ⟨hc.1,hc.2,hR,hl⟩
 obtain⟨q1,q2,q3,q4,q5,q6⟩:=close_parts (t.get c)
 have g2:Good (closeT t c) O:=by
  rw[e]
  refine g.set hc fun y hy e2 k=>?_
  rcases k with ⟨a,k⟩|⟨a,k1,k2⟩
  ·refine .inl ⟨a,?_⟩
   rw[e2] at k ⊢
   rw[get_set hc,q2,q3]
   exact k
  ·refine .inr ⟨a,?_⟩
   rw[e2] at k1 k2 ⊢
   rw[get_set hc,q2,q3]
   refine⟨k1,?_⟩
   rcases k2 with ⟨k2,k3,k4⟩|⟨_,k3,_⟩
   ·exact .inl ⟨k2,q4,by rw[q5 k3];exact k4⟩
   ·rw[hl] at k3;cases k3
 by_cases hd:(t.get c).dn=true
 ·rw[if_pos hd,List.append_nil];exact g2
 ·rw[if_neg hd]
  refine g2.add ⟨hc,?_,.inl ⟨?_,?_,?_⟩⟩<;>(show _=_;rw[e];show _=_;rw[show(rf t c).c=c from rfl,get_set hc])
  ·exact q2.symm
  ·exact q3.symm
  ·exact q4
  ·exact(q6 (Bool.eq_false_iff.2 hd)).symm
theorem Good.open_(g:Good t O)(hl:Ses.look t r=1)(h0:r.r=0):Good (openT t r) (O++[⟨r,openP t r⟩]):=by
 obtain⟨hk,hR,hs⟩:=look_in hl (by decide)
 have hc:=ok_c hk
 have e:openT t r=t.set r.c (openS t r):=if_pos ⟨hl,h0⟩
 have eP:openP t r=(openS t r).p:=if_pos ⟨hl,h0⟩
 have q:(openS t r).ep=r.e∧(openS t r).rq=0∧(openS t r).dn=true:=by
  unfold openS
  split<;>exact⟨rfl,rfl,rfl⟩
 have hep:(t.get r.c).ep<r.e:=by
  rcases fresh_is hs with k|⟨_,k,_,_⟩
  ·exact k.2
  ·exfalso
   have h1:=right_one hR hc
   by_cases he:(t.get r.c).ep=0
   ·have h2:=one_zero h1 he
    rw[h2] at k
    have:r.r=0+1:=k
    omega
   ·have:=(one_pos h1 he).2.2.1
    omega
 have g2:Good (openT t r) O:=by
  rw[e]
  refine g.set hc fun y hy e2 k=>.inl ?_
  rcases k with ⟨a,k⟩|⟨a,k1,k2⟩
  ·refine⟨a,.inl ?_⟩
   rw[e2] at k ⊢
   rw[get_set hc,q.1]
   omega
  ·refine⟨a,.inl ?_⟩
   rw[e2] at k1 ⊢
   rw[get_set hc,q.1]
   omega
 refine g2.add ⟨hc,?_,.inl ⟨?_,?_,?_⟩⟩<;>(show _=_;rw[e,get_set hc])
 ·exact q.1.symm
 ·rw[q.2.1];exact h0
 ·exact q.2.2
 ·exact eP
theorem Good.ends{W P H:List Rf}:∀{Y:List Ot} {t:T} {O:List Ot},J t W (Y.map (·.r)++P) H→Good t O→(∀y∈Y,rep y.p=true)→Good (Ap.ends t (prs Y)) (O++Y)
 | [],t,O,_,g,_=>by rw[List.append_nil];exact g
 | y::m,t,O,j,g,h=>by
  have hl:Ses.look t y.r=3:=j.w y.r (List.mem_append.2 (.inr (List.mem_cons_self ..)))
  have hy:=h y (List.mem_cons_self ..)
  have:=Good.ends (Y:=m) (j.end_ hy) (g.end_ hl hy) fun z hz=>h z (List.mem_cons_of_mem _ hz)
  rw[List.append_assoc] at this
  exact this
theorem leave_good{s:St}(h:Ok s)(hc:0≤c∧c<5)(hl:(s.t.get c).live=true)(g:Good s.t O):Good (leaveS s c).t (O++leaveO s c):=by
 obtain⟨j,_⟩:=leave_j h hc hl
 have:=Good.ends (P:=[]) (by rw[List.append_nil];exact j) (g.close h.t hc hl) (drop_rep s.l _)
 rw[List.append_assoc] at this
 exact this
theorem open_good{s:St}(h:Ok s)(hl:Ses.look s.t r=1)(h0:r.r=0)(g:Good s.t O):Good (openSt s r).t (O++openO s r):=by
 have hc:=look_c hl (by decide)
 have g2:Good (left s r.c).t (O++if (s.t.get r.c).live=true then leaveO s r.c else []):=by
  unfold left
  by_cases hv:(s.t.get r.c).live=true
  ·rw[if_pos hv,if_pos hv];exact leave_good h hc hv g
  ·rw[if_neg hv,if_neg hv,List.append_nil];exact g
 refine(g2.open_ (left_look h hl h0) h0).sub fun y hy=>?_
 unfold openO at hy
 simp only[List.mem_append,List.mem_cons,List.not_mem_nil,or_false] at hy ⊢
 rcases hy with hy|hy|hy
 ·exact .inl (.inl hy)
 ·exact .inr hy
 ·exact .inl (.inr hy)
theorem fresh_good{s:St}(h:Ok s)(hl:Ses.look s.t r=1)(h0:¬r.r=0)(k:Cmd.C)(g:Good s.t O):Good (freshS s r k).t (O++freshO s r k):=by
 have hc:=look_c hl (by decide)
 have hlive:=(fresh_parts hl h0).2.2.2.2.1
 have gt:Good (touch s r).t (O++[⟨r,rz⟩]):=(g.beg hl h0).end_ (beg_look hl h0) rep_z
 unfold freshS freshO
 by_cases h3:k.k=3
 ·rw[if_pos h3,if_pos h3];exact gt
 rw[if_neg h3,if_neg h3]
 by_cases h2:k.k=2
 ·rw[if_pos h2,if_pos h2]
  have e:((touch s r).t.get r.c).live=true:=by
   show((endT (begT s.t r) r rz).get r.c).live=true
   rw[touch_get hl h0 rep_z]
   exact hlive
  have:=leave_good (touch_ok h hl h0) hc e gt
  rw[List.append_assoc] at this
  exact this
 rw[if_neg h2,if_neg h2]
 by_cases hla:(doo s.l r k).later=true
 ·rw[if_pos hla,if_pos hla,List.append_nil]
  exact g.beg hl h0
 rw[if_neg hla,if_neg hla]
 obtain⟨d1,d2⟩:=doo_rep s.l r k
 have j:=h.j.begin hl h0
 obtain⟨a,_⟩:=(doo_moves h.l r k).1 (Bool.eq_false_iff.2 hla)
 have j2:J (begT s.t r) (W (doo s.l r k).l) (r::(doo s.l r k).outs.map (·.r)) []:=by
  refine j.perm ?_ fun x hx=>by cases hx
  refine List.Perm.trans List.perm_middle ?_
  refine List.Perm.trans (List.Perm.cons r a) ?_
  exact(List.perm_append_comm (l₁:=[r]) (l₂:=W s.l))
 have:=Good.ends (P:=[]) (by rw[List.append_nil];exact j2.end_ d1) ((g.beg hl h0).end_ (beg_look hl h0) d1) d2
 rw[List.append_assoc] at this
 exact this
theorem go_good{s:St}(h:Ok s){e:Cmd.E}(he:Cmd.fits e)(g:Good s.t O):Good (goS s e).t (O++goO s e):=by
 have hk:=fits_ref he
 have hc:0≤e.c∧e.c<5:=ok_c hk
 by_cases h18:e.cmd.k=18
 ·rw[(go_18 h18).1,(go_18 h18).2]
  by_cases q:(s.t.get e.c).live=true∧(s.t.get e.c).ep=e.e
  ·rw[if_pos q,if_pos q];exact leave_good h hc q.1 g
  ·rw[if_neg q,if_neg q,List.append_nil];exact g
 by_cases h1:Ses.look s.t (ref e)=1
 ·rw[(go_1 h18 h1).1,(go_1 h18 h1).2]
  by_cases h0:e.r=0
  ·rw[if_pos h0,if_pos h0];exact open_good h h1 h0 g
  ·rw[if_neg h0,if_neg h0];exact fresh_good h h1 h0 e.cmd g
 rw[(go_no h18 h1).1]
 unfold goO
 rw[if_neg h18,if_neg h1]
 by_cases h2:Ses.look s.t (ref e)=2
 ·rw[if_pos h2]
  obtain⟨_,_,hs⟩:=look_in h2 (by decide)
  have hd:e.e=(s.t.get e.c).ep∧e.r=(s.t.get e.c).rq∧(s.t.get e.c).dn=true:=look2_is hs
  exact g.add ⟨hc,hd.1,.inl ⟨hd.2.1,hd.2.2,rfl⟩⟩
 rw[if_neg h2]
 by_cases h4:Ses.look s.t (ref e)=4
 ·rw[if_pos h4]
  obtain⟨_,_,hs⟩:=look_in h4 (by decide)
  have hd:e.e=(s.t.get e.c).ep∧(s.t.get e.c).rq<e.r∧(s.t.get e.c).live=false:=look4_is hs
  exact g.add ⟨hc,hd.1,.inr ⟨hd.2.1,hd.2.2,rfl⟩⟩
 ·rw[if_neg h4,List.append_nil];exact g
theorem ap_good{s:St}(h:Ok s)(e:Cmd.E)(g:Good s.t O):Good (apS s e).t (O++apO s e):=by
 by_cases hc:Can s e
 ·rw[(ap_can hc).1,(ap_can hc).2]
  exact go_good h hc.2.1 g
 ·rw[(ap_bad hc).1,(ap_bad hc).2,List.append_nil]
  exact g
end
def all(s:St):List Cmd.E→St×List Ot
 | []=>(s,[])
 | e::m=>((all (apS s e) m).1,apO s e++(all (apS s e) m).2)
def s0:St:=⟨0,[],t0⟩
theorem ok_0:Ok s0:=by decide
end Ap
end
section
open Go.RowKit
def cmC(k:Int)(name key:ByteArray)(vk vn:Int)(vf:Nat)(vs:ByteArray)(ok on:Int)(of:Nat)(os:ByteArray)(n m:Int):Array Value:=
 #[.int .i64 k,.string name,.string key,.int .i64 vk,.int .i64 vn,.int .u64 (vf:Int),.string vs,.int .i64 ok,.int .i64 on,.int .u64 (of:Int),.string os,.int .i64 n,.int .i64 m]
def cmA(c:Cmd.C):Array Value:=cmC c.k c.name c.key c.val.k c.val.n c.val.f c.val.s c.old.k c.old.n c.old.f c.old.s c.n c.m
def fl(b0 b1 b2 b3 b4 b5:Bool):Array Value:=#[.bool b0,.bool b1,.bool b2,.bool b3,.bool b4,.bool b5]
theorem info_fl:(Tryz.prog.info? 116).map (·.size)=some 6:=by kernel_rfl
theorem info_cm:(Tryz.prog.info? 37).map (·.size)=some 13:=by kernel_rfl
section
variable {b0:Nat}{w0 w:World}{L:List (Nat×TypeId×Array Value)}{R:List RowE}{ops:Array Oper}{rest:List Oper}{o:Oper}{a:Act}{Q:Exit→Act→World→Prop}
theorem kexec_bi(HK:Hid (Kn b0 w0 w L R))(i:Nat)(x:Operand)(ho:o.op=.load 3 x){g off:Nat}{t:TypeId}{cs:Array Value}(hL:L[i]?=some (g,t,cs))(hx:a.eval x=.pointer (some ⟨g,off,none⟩)){n:Int}(hv:cs[off]?=some (.int .i64 n)):
  (execOp a.eval o).run Tryz.prog w=.ok (.value (.int .i64 n)) w:=kexec_lc HK _ x ho i hL hx hv Tryz.underlying3 rfl
theorem kexec_bs(HK:Hid (Kn b0 w0 w L R))(i:Nat)(x:Operand)(ho:o.op=.load 9 x){g off:Nat}{t:TypeId}{cs:Array Value}(hL:L[i]?=some (g,t,cs))(hx:a.eval x=.pointer (some ⟨g,off,none⟩)){s:ByteArray}(hv:cs[off]?=some (.string s)):
  (execOp a.eval o).run Tryz.prog w=.ok (.value (.string s)) w:=kexec_lc HK _ x ho i hL hx hv Tryz.underlying9 rfl
end
def IsF(b0 b1 b2 b3 b4 b5:Bool)(w:World)(e:Ending)(w':World):Prop:=e=.returned (.agg (fl b0 b1 b2 b3 b4 b5))∧Below w.heap.size w w'
theorem ret_fl{f:Func}{R:Ending→World→Prop}{a:Act}{w:World}{B:Nat}{b0 b1 b2 b3 b4 b5:Bool}{q:Tmp}(hf:f.results=#[.cell q 116])(h2:a.tmps[q]?=some (.pointer (some ⟨B,0,none⟩)))(hd:a.defers=[])(hb:Blk w B 116 (fl b0 b1 b2 b3 b4 b5))
  (hR:R (.returned (.agg (fl b0 b1 b2 b3 b4 b5))) w):bodyPost Tryz.prog f R Exit.ret a w:=
 bodyPost_ret (results_cell_row hf a.tmps w B _ _ (0,0) _ (by simp[h2]) hb Tryz.underlying116 rfl info_fl) hd hR
end
section
open Go.RowKit
namespace Cmd
def sized(n m:Int):Prop:=if n=2 then 1≤m∧m≤8 else if n=4 then 1≤m∧m≤5 else 1≤n∧n≤5∧m=0
instance (n m:Int):Decidable (sized n m):=by unfold sized;infer_instance
def cN(c:C):Int:=if c.k<1∨18<c.k∨¬others c∨(f0 c.k=true∧c.name.size=0) then 1 else 0
def cL(c:C):Int:=if 16<c.name.size∨64<c.key.size then 2 else 0
def cV(c:C):Int:=if (c.k=7∨c.k=10)∧c.val.k=0 then 1 else if c.k=15∧c.val.k≠2 then 7 else 0
def cM(c:C):Int:=if ¬nums c then 1 else 0
def nz:List Int→Int
 | []=>0
 | x::r=>if x≠0 then x else nz r
theorem chk_nz(c:C):nz [cN c,cL c,Val.chk c.old,Val.chk c.val,cV c,cM c]=chk c:=by
 unfold chk cN cL cV cM
 simp only[nz]
 split<;>rename_i h1
 ·rw[if_pos (by decide)]
 ·rw[if_neg (by decide)]
  split<;>rename_i h2
  ·rw[if_pos (by decide)]
  ·rw[if_neg (by decide)]
   split<;>rename_i h3
   ·rfl
   ·split<;>rename_i h4
    ·rfl
    ·split<;>rename_i h5
     ·rw[if_pos (by decide)]
     ·split<;>rename_i h6
      ·rw[if_pos (by decide)]
      ·rw[if_neg (by decide)]
       split<;>rename_i h7
       ·rw[if_pos (by decide)]
       ·rw[if_neg (by decide)]
end Cmd
theorem within_any(a b c:Int)(w:World):Calls Tryz.prog 123 #[.int .i64 a,.int .i64 b,.int .i64 c] w fun e w'=>e=.returned (.bool (decide (b≤a∧a≤c)))∧w'=w:=by
 have HE:Hid (∀q:Bool,(q=true↔(b≤a∧a≤c))→q=decide (b≤a∧a≤c)):=zH fun q hq=>by
  rw[Bool.eq_iff_iff,hq,decide_eq_true_eq]
 generalize decide (b≤a∧a≤c)=r at *
 go_enter Tryz.func123,Tryz.ntmps123
 go_wp2_with fail
 all_goals
  go_ret
  refine⟨congrArg (fun b=>Ending.returned (.bool b)) (HE.out _ ?_),rfl⟩
  clear HE
  simp_all<;>omega
theorem sized_any(n m:Int)(w:World):Calls Tryz.prog 122 #[.int .i64 n,.int .i64 m] w fun e w'=>e=.returned (.bool (decide (Cmd.sized n m)))∧w'=w:=by
 have HE:Hid (∀q:Bool,(q=true↔Cmd.sized n m)→q=decide (Cmd.sized n m)):=zH fun q hq=>by
  rw[Bool.eq_iff_iff,hq,decide_eq_true_eq]
 have HW:=zH within_any
 generalize decide (Cmd.sized n m)=r at *
 by_cases h2:n=2
 ·subst h2
  go_enter Tryz.func122,Tryz.ntmps122
  go_wp2_with fail
  refine(HW.out _ _ _ _).mono ?_;rintro e w1 ⟨rfl,rfl⟩
  go_wp2_with fail
  go_ret
  refine⟨congrArg (fun b=>Ending.returned (.bool b)) (HE.out _ ?_),rfl⟩
  unfold Cmd.sized;simp
 by_cases h4:n=4
 ·subst h4
  go_enter Tryz.func122,Tryz.ntmps122
  go_wp2_with fail
  refine(HW.out _ _ _ _).mono ?_;rintro e w1 ⟨rfl,rfl⟩
  go_wp2_with fail
  go_ret
  refine⟨congrArg (fun b=>Ending.returned (.bool b)) (HE.out _ ?_),rfl⟩
  unfold Cmd.sized;simp
 ·go_enter Tryz.func122,Tryz.ntmps122
  go_wp2_with fail
  all_goals
   go_ret
   refine⟨congrArg (fun b=>Ending.returned (.bool b)) (HE.out _ ?_),rfl⟩
   clear HE HW
   unfold Cmd.sized
   simp_all<;>omega
theorem cnums_any(c:Cmd.C)(w:World):Calls Tryz.prog 82 #[.agg (cmA c)] w fun en w'=>en=.returned (.int .i64 (Cmd.cM c))∧Below w.heap.size w w':=by
 have HS:=zH (fun W=>sized_any c.n c.m W)
 have HW:=zH (fun W=>within_any c.n 0 3 W)
 have HE:Hid (∀x:Int,Cmd.cM c=x→∀(en:Ending) (w':World),(en=.returned (.int .i64 x)∧Below w.heap.size w w')→(en=.returned (.int .i64 (Cmd.cM c))∧Below w.heap.size w w')):=zH fun x hx en w' h=>by rw[hx];exact h
 have hm:Cmd.cM c=if c.k=16 then (if 0≤c.n∧c.n≤3 then 0 else 1) else if c.k≠4 then 0 else if Cmd.sized c.n c.m then 0 else 1:=by
  unfold Cmd.cM Cmd.nums Cmd.sized
  repeat' split
  all_goals simp_all
 generalize Cmd.cM c=z at *
 obtain⟨k,name,key,val,old,n,m⟩:=c
 unfold cmA
 simp only at HE HS HW hm ⊢
 have HK:=kn1 w 37 (cmC k name key val.k val.n val.f val.s old.k old.n old.f old.s n m)
 have p0:(cmC k name key val.k val.n val.f val.s old.k old.n old.f old.s n m)[0]?=some (.int .i64 k):=rfl
 have p11:(cmC k name key val.k val.n val.f val.s old.k old.n old.f old.s n m)[11]?=some (.int .i64 n):=rfl
 have p12:(cmC k name key val.k val.n val.f val.s old.k old.n old.f old.s n m)[12]?=some (.int .i64 m):=rfl
 by_cases h16:k=16
 ·subst h16
  rw[if_pos rfl] at hm
  generalize hd:decide ((0:Int)≤n∧n≤3)=d at *
  have HD:=zH hd
  have HM:=zH hm
  clear hd hm
  generalize cmC 16 name key val.k val.n val.f val.s old.k old.n old.f old.s n m=pa at *
  cases d
  all_goals
   go_enter Tryz.func82,Tryz.ntmps82
   go_wp2_with fail
   refine(HW.out _).mono ?_;rintro e w1 ⟨rfl,rfl⟩
   go_wp2_with fail
   go_ret
   refine HE.out _ ?_ _ _ ⟨rfl,HK.out.b⟩
   have hd:=HD.out
   rw[HM.out]
   simp at hd
   first|rw[if_pos (by omega)]|rw[if_neg (by omega)]
 ·rw[if_neg h16] at hm
  by_cases h4:k=4
  ·subst h4
   rw[if_neg (by decide)] at hm
   generalize hd:decide (Cmd.sized n m)=d at *
   have HD:=zH hd
   have HM:=zH hm
   clear hd hm
   generalize cmC 4 name key val.k val.n val.f val.s old.k old.n old.f old.s n m=pa at *
   cases d
   all_goals
    go_enter Tryz.func82,Tryz.ntmps82
    go_wp2_with fail
    refine(HS.out _).mono ?_;rintro e w1 ⟨rfl,rfl⟩
    go_wp2_with fail
    go_ret
    refine HE.out _ ?_ _ _ ⟨rfl,HK.out.b⟩
    have hd:=HD.out
    rw[HM.out]
    simp at hd
    first|rw[if_pos hd]|rw[if_neg hd]
  ·rw[if_pos h4] at hm
   subst hm
   generalize cmC k name key val.k val.n val.f val.s old.k old.n old.f old.s n m=pa at *
   go_enter Tryz.func82,Tryz.ntmps82
   go_wp2_with fail
   go_ret
   exact HE.out _ rfl _ _ ⟨rfl,HK.out.b⟩
theorem cval_any(c:Cmd.C)(w:World):Calls Tryz.prog 81 #[.agg (cmA c)] w fun en w'=>en=.returned (.int .i64 (Cmd.cV c))∧Below w.heap.size w w':=by
 have HE:Hid (∀x:Int,x=Cmd.cV c→∀(en:Ending) (w':World),(en=.returned (.int .i64 x)∧Below w.heap.size w w')→(en=.returned (.int .i64 (Cmd.cV c))∧Below w.heap.size w w')):=zH fun x hx en w' h=>by rw[← hx];exact h
 have hm:Cmd.cV c=if (c.k=7∨c.k=10)∧c.val.k=0 then 1 else if c.k=15∧c.val.k≠2 then 7 else 0:=rfl
 generalize Cmd.cV c=z at *
 obtain⟨k,name,key,⟨vk,vn,vf,vs⟩,old,n,m⟩:=c
 unfold cmA
 simp only at HE hm ⊢
 have HK:=kn1 w 37 (cmC k name key vk vn vf vs old.k old.n old.f old.s n m)
 have p0:(cmC k name key vk vn vf vs old.k old.n old.f old.s n m)[0]?=some (.int .i64 k):=rfl
 have p3:(cmC k name key vk vn vf vs old.k old.n old.f old.s n m)[3]?=some (.int .i64 vk):=rfl
 generalize cmC k name key vk vn vf vs old.k old.n old.f old.s n m=pa at *
 have HM:=zH hm
 clear hm
 go_enter Tryz.func81,Tryz.ntmps81
 go_wp2_with fail
 all_goals
  go_ret
  refine HE.out _ ?_ _ _ ⟨rfl,HK.out.b⟩
  have hm:=HM.out
  clear HE HK HM p0 p3
  simp_all<;>omega
theorem clen_any(c:Cmd.C)(w:World):Calls Tryz.prog 79 #[.agg (cmA c)] w fun en w'=>en=.returned (.int .i64 (Cmd.cL c))∧Below w.heap.size w w':=by
 have HE:Hid (∀x:Int,x=Cmd.cL c→∀(en:Ending) (w':World),(en=.returned (.int .i64 x)∧Below w.heap.size w w')→(en=.returned (.int .i64 (Cmd.cL c))∧Below w.heap.size w w')):=zH fun x hx en w' h=>by rw[← hx];exact h
 have hm:Cmd.cL c=if 16<(c.name.size:Int)∨64<(c.key.size:Int) then 2 else 0:=by
  unfold Cmd.cL
  split
  ·rw[if_pos (by omega)]
  ·rw[if_neg (by omega)]
 generalize Cmd.cL c=z at *
 obtain⟨k,name,key,val,old,n,m⟩:=c
 unfold cmA
 simp only at HE hm ⊢
 have HK:=kn1 w 37 (cmC k name key val.k val.n val.f val.s old.k old.n old.f old.s n m)
 have p1:(cmC k name key val.k val.n val.f val.s old.k old.n old.f old.s n m)[1]?=some (.string name):=rfl
 have p2:(cmC k name key val.k val.n val.f val.s old.k old.n old.f old.s n m)[2]?=some (.string key):=rfl
 generalize cmC k name key val.k val.n val.f val.s old.k old.n old.f old.s n m=pa at *
 have HM:=zH hm
 clear hm
 go_enter Tryz.func79,Tryz.ntmps79
 go_wp2_with fail
 all_goals
  go_ret
  refine HE.out _ ?_ _ _ ⟨rfl,HK.out.b⟩
  have hm:=HM.out
  clear HE HK HM p1 p2
  simp_all<;>omega
def IsN(b0 b1 b2 b3 b4 b5 ok:Bool)(w:World)(e:Ending)(w':World):Prop:=e=.returned (.tuple #[.agg (fl b0 b1 b2 b3 b4 b5),.bool ok])∧Below w.heap.size w w'
theorem ret_fln{f:Func}{R:Ending→World→Prop}{a:Act}{w:World}{B:Nat}{b0 b1 b2 b3 b4 b5:Bool}{u:Value}{k q:Tmp}(hf:f.results=#[.cell k 116,.tmp q])(h2:a.tmps[k]?=some (.pointer (some ⟨B,0,none⟩)))(h4:a.tmps[q]?=some u)(hd:a.defers=[])
  (hb:Blk w B 116 (fl b0 b1 b2 b3 b4 b5)) (hR:R (.returned (.tuple #[.agg (fl b0 b1 b2 b3 b4 b5),u])) w):bodyPost Tryz.prog f R Exit.ret a w:=by
 refine bodyPost_ret (v:=.tuple #[.agg (fl b0 b1 b2 b3 b4 b5),u]) ?_ hd hR
 have h:=run_loadVar_row (P:=Tryz.prog) w B _ _ _ (0,0) _ hb Tryz.underlying116 rfl info_fl
 simp[results,hf,asAddr,Sem.run_bind,h2,h4,h]
theorem isN{k:Int}{b0 b1 b2 b3 b4 b5 ok:Bool}{w:World}{e:Ending}{w':World}(h:IsN b0 b1 b2 b3 b4 b5 ok w e w')(e0:Cmd.f0 k=b0)(e1:Cmd.f1 k=b1)(e2:Cmd.f3 k=b2)(e3:Cmd.f2 k=b3)(e4:Cmd.f4 k=b4)(e5:Cmd.f5 k=b5)(e6:decide (1≤k∧k≤18)=ok):IsN (Cmd.f0 k) (Cmd.f1 k) (Cmd.f3 k) (Cmd.f2 k) (Cmd.f4 k) (Cmd.f5 k) (decide (1≤k∧k≤18)) w e w':=by
 rw[e0,e1,e2,e3,e4,e5,e6];exact h
theorem cnamed_any(k:Int)(w:World):Calls Tryz.prog 118 #[.int .i64 k] w (IsN (Cmd.f0 k) (Cmd.f1 k) (Cmd.f3 k) (Cmd.f2 k) (Cmd.f4 k) (Cmd.f5 k) (decide (1≤k∧k≤18)) w):=by
 have hk:(k=1∨k=2∨k=3∨k=18)∨(k=4∨k=5∨k=6∨k=7∨k=8∨k=9∨k=10∨k=11∨k=12∨k=13∨k=14∨k=15∨k=16∨k=17)∨(k<1∨18<k):=by omega
 rcases hk with (rfl|rfl|rfl|rfl)|(rfl|rfl|rfl|rfl|rfl|rfl|rfl|rfl|rfl|rfl|rfl|rfl|rfl|rfl)|h
 case inr.inr=>
  obtain⟨e0,e1,e2,e3,e4,e5⟩:=Cmd.flags_none (k:=k) (by omega)
  have e6:decide (1≤k∧k≤18)=false:=by simp;omega
  have n1:¬k=1:=by omega
  have n2:¬k=2:=by omega
  have n3:¬k=3:=by omega
  have n4:¬k=4:=by omega
  have n5:¬k=5:=by omega
  have n6:¬k=6:=by omega
  have n7:¬k=7:=by omega
  have n8:¬k=8:=by omega
  have n9:¬k=9:=by omega
  have n10:¬k=10:=by omega
  have n11:¬k=11:=by omega
  have n12:¬k=12:=by omega
  have n13:¬k=13:=by omega
  have n14:¬k=14:=by omega
  have n15:¬k=15:=by omega
  have n16:¬k=16:=by omega
  have n17:¬k=17:=by omega
  have n18:¬k=18:=by omega
  refine Calls.mono (R:=IsN false false false false false false false w) ?_ fun e w' h=>isN h e0 e1 e3 e2 e4 e5 e6
  clear h e0 e1 e2 e3 e4 e5 e6
  go_enter Tryz.func118,Tryz.ntmps118
  go_wp2_with fail
  exact ret_fln Tryz.results118 rfl rfl rfl (Blk.new w _ _) ⟨rfl,(Below.refl _ w).alloc (Nat.le_refl _) _⟩
 all_goals
  go_enter Tryz.func118,Tryz.ntmps118
  go_wp2_with fail
  exact ret_fln Tryz.results118 rfl rfl rfl (Blk.new w _ _) ⟨rfl,(Below.refl _ w).alloc (Nat.le_refl _) _⟩
end
section
theorem nil_is(v:Val.V):Cmd.nil v↔(v.k=0∧v.n=0∧v.f=0∧v.s.toList=[]):=by
 unfold Cmd.nil
 constructor
 ·rintro ⟨h1,h2,h3,h4⟩
  rw[Cmd.size_emp h4]
  exact⟨h1,h2,h3,by rw[ByteArray.toList_eq];rfl⟩
 ·rintro ⟨h1,h2,h3,h4⟩
  refine⟨h1,h2,h3,?_⟩
  rw[ByteArray.toList_eq] at h4
  have:=congrArg List.length h4
  simpa using this
end
section
open Go.RowKit
theorem info_va4:(Tryz.prog.info? 26).map (·.size)=some 4:=by kernel_rfl
section
variable {b0:Nat}{w0 w:World}{L:List (Nat×TypeId×Array Value)}{R:List RowE}{ops:Array Oper}{rest:List Oper}{o:Oper}{a:Act}{Q:Exit→Act→World→Prop}
theorem kexec_va(HK:Hid (Kn b0 w0 w L R))(i:Nat)(x:Operand)(ho:o.op=.load 26 x){g:Nat}{t:TypeId}{k:Int}{name key:ByteArray}{vk vn:Int}{vf:Nat}{vs:ByteArray}{ok on:Int}{of:Nat}{os:ByteArray}{n m:Int}(hL:L[i]?=some (g,t,cmC k name key vk vn vf vs ok on of os n m))(hx:a.eval x=.pointer (some ⟨g,3,none⟩)):
  (execOp a.eval o).run Tryz.prog w=.ok (.value (.agg #[.int .i64 vk,.int .i64 vn,.int .u64 (vf:Int),.string vs])) w:=
 kexec_ls HK _ x ho i hL hx #[.int .i64 vk,.int .i64 vn,.int .u64 (vf:Int),.string vs] (fun j hj=>by
  match j,hj with
  | 0,_|1,_|2,_|3,_=>rfl) Tryz.underlying26 info_va4
theorem kexec_ol(HK:Hid (Kn b0 w0 w L R))(i:Nat)(x:Operand)(ho:o.op=.load 26 x){g:Nat}{t:TypeId}{k:Int}{name key:ByteArray}{vk vn:Int}{vf:Nat}{vs:ByteArray}{ok on:Int}{of:Nat}{os:ByteArray}{n m:Int}(hL:L[i]?=some (g,t,cmC k name key vk vn vf vs ok on of os n m))(hx:a.eval x=.pointer (some ⟨g,7,none⟩)):
  (execOp a.eval o).run Tryz.prog w=.ok (.value (.agg #[.int .i64 ok,.int .i64 on,.int .u64 (of:Int),.string os])) w:=
 kexec_ls HK _ x ho i hL hx #[.int .i64 ok,.int .i64 on,.int .u64 (of:Int),.string os] (fun j hj=>by
  match j,hj with
  | 0,_|1,_|2,_|3,_=>rfl) Tryz.underlying26 info_va4
theorem kexec_cm(HK:Hid (Kn b0 w0 w L R))(i:Nat)(x:Operand)(ho:o.op=.load 37 x){g:Nat}{t:TypeId}{k:Int}{name key:ByteArray}{vk vn:Int}{vf:Nat}{vs:ByteArray}{ok on:Int}{of:Nat}{os:ByteArray}{n m:Int}(hL:L[i]?=some (g,t,cmC k name key vk vn vf vs ok on of os n m))(hx:a.eval x=.pointer (some ⟨g,0,none⟩)):
  (execOp a.eval o).run Tryz.prog w=.ok (.value (.agg (cmC k name key vk vn vf vs ok on of os n m))) w:=
 kexec_ls HK _ x ho i hL hx (cmC k name key vk vn vf vs ok on of os n m) (fun j _=>by rw[Nat.zero_add]) Tryz.underlying37 info_cm
end
def IsFl(c:Cmd.C)(w:World)(e:Ending)(w':World):Prop:=∃b0 b1 b2 b3 b4 b5,e=.returned (.agg (fl b0 b1 b2 b3 b4 b5))∧((b0=false↔c.name.size=0)∧(b1=false↔c.key.size=0)∧(b2=false↔Cmd.nil c.val)∧(b3=false↔Cmd.nil c.old)∧(b4=false↔c.n=0)∧(b5=false↔c.m=0))∧Below w.heap.size w w'
theorem emp_l{s:ByteArray}:s.size=0↔s.toList=[]:=by
 constructor
 ·intro h
  rw[Cmd.size_emp h,ByteArray.toList_eq];rfl
 ·intro h
  rw[ByteArray.toList_eq] at h
  have:=congrArg List.length h
  simpa using this
theorem cfilled_any(c:Cmd.C)(w:World):Calls Tryz.prog 119 #[.agg (cmA c)] w (IsFl c w):=by
 obtain⟨k,name,key,⟨vk,vn,vf,vs⟩,⟨ok,on,of,os⟩,n,m⟩:=c
 unfold cmA IsFl
 simp only[nil_is,emp_l]
 have HK:=kn2 w 37 (cmC k name key vk vn vf vs ok on of os n m) 116 (fl false false false false false false)
 go_enter Tryz.func119,Tryz.ntmps119
 go_wp2_with fail
 replace HK:=zH HK.out.drew
 refine wp_region_held_drew (S:=(fun W=>Hid (Kn w.heap.size w W [(w.heap.size,37,cmC k name key vk vn vf vs ok on of os n m)] []))) (by kernel_rfl) ?_ (fun hHeld=>?_)
 ·(try dsimp only);exact zH (HK.out.takeL 1)
 refine wpAnyH_take (i:=0) (oi:=⟨some 3,_,_,_,_,_⟩) (v:=?_) rfl (by kernel_rfl) (by kernel_rfl) (by kernel_rfl) (fun _ _ _ h=>h) (Or.inl ⟨by rfl,?_⟩) (by assumption) ?_
 rotate_left
 ·(intro w hSw;(try dsimp only at hSw);go_simp;try with_reducible rfl)
 try simp only[Act.put,List.setIfInBounds_toArray,List.set_cons_zero,List.set_cons_succ]
 refine wpAnyH_take (i:=1) (oi:=⟨some 4,_,_,_,_,_⟩) (v:=?_) rfl (by kernel_rfl) (by kernel_rfl) (by kernel_rfl) (fun _ _ _ h=>h) (Or.inl ⟨by rfl,?_⟩) (by assumption) ?_
 rotate_left
 ·(intro w hSw;refine Eq.trans (kexec_bs hSw 0 _ (by rfl) (by rfl) (by rfl) (by rfl)) ?_;with_reducible rfl)
 try simp only[Act.put,List.setIfInBounds_toArray,List.set_cons_zero,List.set_cons_succ]
 refine wpAnyH_take (i:=2) (oi:=⟨some 5,_,_,_,_,_⟩) (v:=?_) rfl (by kernel_rfl) (by kernel_rfl) (by kernel_rfl) (fun _ _ _ h=>h) (Or.inl ⟨by rfl,?_⟩) (by assumption) ?_
 rotate_left
 ·(intro w hSw;(try dsimp only at hSw);go_simp;try with_reducible rfl)
 try simp only[Act.put,List.setIfInBounds_toArray,List.set_cons_zero,List.set_cons_succ]
 refine wpAnyH_take (i:=3) (oi:=⟨some 6,_,_,_,_,_⟩) (v:=?_) rfl (by kernel_rfl) (by kernel_rfl) (by kernel_rfl) (fun _ _ _ h=>h) (Or.inl ⟨by rfl,?_⟩) (by assumption) ?_
 rotate_left
 ·(intro w hSw;(try dsimp only at hSw);go_simp;try with_reducible rfl)
 try simp only[Act.put,List.setIfInBounds_toArray,List.set_cons_zero,List.set_cons_succ]
 refine wpAnyH_take (i:=4) (oi:=⟨some 7,_,_,_,_,_⟩) (v:=?_) rfl (by kernel_rfl) (by kernel_rfl) (by kernel_rfl) (fun _ _ _ h=>h) (Or.inl ⟨by rfl,?_⟩) (by assumption) ?_
 rotate_left
 ·(intro w hSw;refine Eq.trans (kexec_bs hSw 0 _ (by rfl) (by rfl) (by rfl) (by rfl)) ?_;with_reducible rfl)
 try simp only[Act.put,List.setIfInBounds_toArray,List.set_cons_zero,List.set_cons_succ]
 refine wpAnyH_take (i:=5) (oi:=⟨some 8,_,_,_,_,_⟩) (v:=?_) rfl (by kernel_rfl) (by kernel_rfl) (by kernel_rfl) (fun _ _ _ h=>h) (Or.inl ⟨by rfl,?_⟩) (by assumption) ?_
 rotate_left
 ·(intro w hSw;(try dsimp only at hSw);go_simp;try with_reducible rfl)
 try simp only[Act.put,List.setIfInBounds_toArray,List.set_cons_zero,List.set_cons_succ]
 refine wpAnyH_take (i:=6) (oi:=⟨some 9,_,_,_,_,_⟩) (v:=?_) rfl (by kernel_rfl) (by kernel_rfl) (by kernel_rfl) (fun _ _ _ h=>h) (Or.inl ⟨by rfl,?_⟩) (by assumption) ?_
 rotate_left
 ·(intro w hSw;(try dsimp only at hSw);go_simp;try with_reducible rfl)
 try simp only[Act.put,List.setIfInBounds_toArray,List.set_cons_zero,List.set_cons_succ]
 refine wpAnyH_take (i:=7) (oi:=⟨some 10,_,_,_,_,_⟩) (v:=?_) rfl (by kernel_rfl) (by kernel_rfl) (by kernel_rfl) (fun _ _ _ h=>h) (Or.inl ⟨by rfl,?_⟩) (by assumption) ?_
 rotate_left
 ·(intro w hSw;refine Eq.trans (kexec_va hSw 0 _ (by rfl) (by rfl) (by rfl)) ?_;with_reducible rfl)
 try simp only[Act.put,List.setIfInBounds_toArray,List.set_cons_zero,List.set_cons_succ]
 refine wpAnyH_take (i:=8) (oi:=⟨some 11,_,_,_,_,_⟩) (v:=?_) rfl (by kernel_rfl) (by kernel_rfl) (by kernel_rfl) (fun _ _ _ h=>h) (Or.inl ⟨by rfl,?_⟩) (by assumption) ?_
 rotate_left
 ·(intro w hSw;(try dsimp only at hSw);go_simp;try with_reducible rfl)
 try simp only[Act.put,List.setIfInBounds_toArray,List.set_cons_zero,List.set_cons_succ]
 refine wpAnyH_take (i:=9) (oi:=⟨some 12,_,_,_,_,_⟩) (v:=?_) rfl (by kernel_rfl) (by kernel_rfl) (by kernel_rfl) (fun _ _ _ h=>h) (Or.inl ⟨by rfl,?_⟩) (by assumption) ?_
 rotate_left
 ·(intro w hSw;refine Eq.trans ((show _=Result.ok (Next.value (Value.bool (!(decide (vk=0)&&decide (vn=0)&&decide (vf=0)&&decide (vs.toList=[]))))) w from by go_simp;by_cases h1:vk=0<;>by_cases h2:vn=0<;>by_cases h3:vf=0<;>by_cases h4:vs.toList=[]<;>simp[h1,h2,h3,h4])) ?_;with_reducible rfl)
 try simp only[Act.put,List.setIfInBounds_toArray,List.set_cons_zero,List.set_cons_succ]
 refine wpAnyH_take (i:=10) (oi:=⟨some 13,_,_,_,_,_⟩) (v:=?_) rfl (by kernel_rfl) (by kernel_rfl) (by kernel_rfl) (fun _ _ _ h=>h) (Or.inl ⟨by rfl,?_⟩) (by assumption) ?_
 rotate_left
 ·(intro w hSw;(try dsimp only at hSw);go_simp;try with_reducible rfl)
 try simp only[Act.put,List.setIfInBounds_toArray,List.set_cons_zero,List.set_cons_succ]
 refine wpAnyH_take (i:=11) (oi:=⟨some 14,_,_,_,_,_⟩) (v:=?_) rfl (by kernel_rfl) (by kernel_rfl) (by kernel_rfl) (fun _ _ _ h=>h) (Or.inl ⟨by rfl,?_⟩) (by assumption) ?_
 rotate_left
 ·(intro w hSw;refine Eq.trans (kexec_ol hSw 0 _ (by rfl) (by rfl) (by rfl)) ?_;with_reducible rfl)
 try simp only[Act.put,List.setIfInBounds_toArray,List.set_cons_zero,List.set_cons_succ]
 refine wpAnyH_take (i:=12) (oi:=⟨some 15,_,_,_,_,_⟩) (v:=?_) rfl (by kernel_rfl) (by kernel_rfl) (by kernel_rfl) (fun _ _ _ h=>h) (Or.inl ⟨by rfl,?_⟩) (by assumption) ?_
 rotate_left
 ·(intro w hSw;(try dsimp only at hSw);go_simp;try with_reducible rfl)
 try simp only[Act.put,List.setIfInBounds_toArray,List.set_cons_zero,List.set_cons_succ]
 refine wpAnyH_take (i:=13) (oi:=⟨some 16,_,_,_,_,_⟩) (v:=?_) rfl (by kernel_rfl) (by kernel_rfl) (by kernel_rfl) (fun _ _ _ h=>h) (Or.inl ⟨by rfl,?_⟩) (by assumption) ?_
 rotate_left
 ·(intro w hSw;refine Eq.trans ((show _=Result.ok (Next.value (Value.bool (!(decide (ok=0)&&decide (on=0)&&decide (of=0)&&decide (os.toList=[]))))) w from by go_simp;by_cases h1:ok=0<;>by_cases h2:on=0<;>by_cases h3:of=0<;>by_cases h4:os.toList=[]<;>simp[h1,h2,h3,h4])) ?_;with_reducible rfl)
 try simp only[Act.put,List.setIfInBounds_toArray,List.set_cons_zero,List.set_cons_succ]
 refine wpAnyH_take (i:=14) (oi:=⟨some 17,_,_,_,_,_⟩) (v:=?_) rfl (by kernel_rfl) (by kernel_rfl) (by kernel_rfl) (fun _ _ _ h=>h) (Or.inl ⟨by rfl,?_⟩) (by assumption) ?_
 rotate_left
 ·(intro w hSw;(try dsimp only at hSw);go_simp;try with_reducible rfl)
 try simp only[Act.put,List.setIfInBounds_toArray,List.set_cons_zero,List.set_cons_succ]
 refine wpAnyH_take (i:=15) (oi:=⟨some 18,_,_,_,_,_⟩) (v:=?_) rfl (by kernel_rfl) (by kernel_rfl) (by kernel_rfl) (fun _ _ _ h=>h) (Or.inl ⟨by rfl,?_⟩) (by assumption) ?_
 rotate_left
 ·(intro w hSw;refine Eq.trans (kexec_bi hSw 0 _ (by rfl) (by rfl) (by rfl) (by rfl)) ?_;with_reducible rfl)
 try simp only[Act.put,List.setIfInBounds_toArray,List.set_cons_zero,List.set_cons_succ]
 refine wpAnyH_take (i:=16) (oi:=⟨some 19,_,_,_,_,_⟩) (v:=?_) rfl (by kernel_rfl) (by kernel_rfl) (by kernel_rfl) (fun _ _ _ h=>h) (Or.inl ⟨by rfl,?_⟩) (by assumption) ?_
 rotate_left
 ·(intro w hSw;(try dsimp only at hSw);go_simp;try with_reducible rfl)
 try simp only[Act.put,List.setIfInBounds_toArray,List.set_cons_zero,List.set_cons_succ]
 refine wpAnyH_take (i:=17) (oi:=⟨some 20,_,_,_,_,_⟩) (v:=?_) rfl (by kernel_rfl) (by kernel_rfl) (by kernel_rfl) (fun _ _ _ h=>h) (Or.inl ⟨by rfl,?_⟩) (by assumption) ?_
 rotate_left
 ·(intro w hSw;(try dsimp only at hSw);go_simp;try with_reducible rfl)
 try simp only[Act.put,List.setIfInBounds_toArray,List.set_cons_zero,List.set_cons_succ]
 refine wpAnyH_take (i:=18) (oi:=⟨some 21,_,_,_,_,_⟩) (v:=?_) rfl (by kernel_rfl) (by kernel_rfl) (by kernel_rfl) (fun _ _ _ h=>h) (Or.inl ⟨by rfl,?_⟩) (by assumption) ?_
 rotate_left
 ·(intro w hSw;refine Eq.trans (kexec_bi hSw 0 _ (by rfl) (by rfl) (by rfl) (by rfl)) ?_;with_reducible rfl)
 try simp only[Act.put,List.setIfInBounds_toArray,List.set_cons_zero,List.set_cons_succ]
 refine wpAnyH_take (i:=19) (oi:=⟨some 22,_,_,_,_,_⟩) (v:=?_) rfl (by kernel_rfl) (by kernel_rfl) (by kernel_rfl) (fun _ _ _ h=>h) (Or.inl ⟨by rfl,?_⟩) (by assumption) ?_
 rotate_left
 ·(intro w hSw;(try dsimp only at hSw);go_simp;try with_reducible rfl)
 try simp only[Act.put,List.setIfInBounds_toArray,List.set_cons_zero,List.set_cons_succ]
 refine wpAnyH_take (i:=20) (oi:=⟨some 23,_,_,_,_,_⟩) (v:=?_) rfl (by kernel_rfl) (by kernel_rfl) (by kernel_rfl) (fun _ _ _ h=>h) (Or.inl ⟨by rfl,?_⟩) (by assumption) ?_
 rotate_left
 ·(intro w hSw;(try dsimp only at hSw);go_simp;try with_reducible rfl)
 try simp only[Act.put,List.setIfInBounds_toArray,List.set_cons_zero,List.set_cons_succ]
 refine wpAnyH_ready (rs:=[21]) (by kernel_rfl) (by simp) ?_
 refine AllReadyH.cons (o:=⟨none,_,_,_,_,_⟩) rfl (fun K hK=>?_) AllReadyH.nil
 refine step_ss HK 1 (by rfl) _ _ _ (by rfl) (by rfl) (by rfl) (by rfl) (by show 6≤6;decide) info_fl (by simp[Value.oneCell']) ?_;intro _ HK' _;simp only[List.set] at HK';replace HK:=HK';clear HK';have hs:=zH (HK.out.takeL 1)
 refine hK.out _ _ hs (fun hHeld=>?_)
 clear hK K
 try simp only[ap1,ap2,ap3,ap4,ap5]
 refine wpAnyH_done (by kernel_rfl) ?_ _
 go_wp2_with fail
 refine ret_fl Tryz.results119 rfl rfl (HK.out.blk 1 rfl) ⟨_,_,_,_,_,_,rfl,?_,HK.out.b⟩
 clear HK hHeld
 refine⟨?_,?_,?_,?_,?_,?_⟩<;>simp[and_assoc]
end
end Go.Proofs.YtddpmlcpfmmbeaaGreat
