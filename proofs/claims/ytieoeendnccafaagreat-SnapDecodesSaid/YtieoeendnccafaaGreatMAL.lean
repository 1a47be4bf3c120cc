/- What cmd.Right, the document's Right and Mine, and lock.asked return. No condition but those named. -/
import Derived.Test.YtieoeendnccafaaGreatMTK
import Derived.Test.YtieoeendnccafaaGreatMAI
import Derived.Test.YtieoeendnccafaaGreatMAJ
import Derived.Test.YtieoeendnccafaaGreatMAB
import Derived.Test.YtieoeendnccafaaGreatMAG
import Derived.Test.YtieoeendnccafaaGreatMAA
import Derived.Lib.AppendZeros
import Derived.Test.YtieoeendnccafaaGreatRows
import Derived.KernelRfl
import Derived.Deep.RegionWith
import Derived.Deep.RegionHeld3
import Derived.Deep.Draws
import Derived.Lib.Hide
import Derived.Deep.CutBlock
import Derived.Deep.DeepCutAuto
set_option linter.unusedSimpArgs false
set_option linter.unusedVariables false
set_option maxRecDepth 100000
set_option maxHeartbeats 25600000
namespace Go.Proofs.YtieoeendnccafaaGreat
section
open Go.RowKit
def prF(p:Dct.Pr):Prop:=p.val.f<18446744073709551616
theorem Sl.sls{w:World}{A:Option Addr}{n c:Nat}{l:List Dct.Pr}(h:Sl w A n c l):Sls prLay prF w A n c l:=
 ⟨h.len,h.cap,h.rd,h.nl,⟨h.fs,by
  have:=h.big
  rw[h.len]
  show n*56≤_
  omega⟩⟩
theorem Sls.sl{w:World}{A:Option Addr}{n c:Nat}{l:List Dct.Pr}(h:Sls prLay prF w A n c l):Sl w A n c l:=
 ⟨h.len,h.cap,h.rd,h.nl,h.fit.fs,by
  have h2:n*56≤140737488355328:=h.big
  omega⟩
end
section
open Go.RowKit
def rows3(x:Oh):List RowE:=[row prLay (.slice x.pA x.pn x.pc) x.v.prs,row vaLay (.slice x.vA x.vn x.vc) x.v.vals,row rfLay (.slice x.rA x.rn x.rc) x.v.refs]
section
variable {b0:Nat}{w0 w:World}{L:List (Nat×TypeId×Array Value)}{R:List RowE}
theorem Kn.init{y:RowE}(h:Kn b0 w0 w L (R++[y])):Kn b0 w0 w L R:=by
 have h2:=h.takeR R.length
 rw[List.take_left' rfl] at h2
 exact h2
theorem Kn.lastOwn{P:Program}{α:Type}{La:Lay P α}{v:Value}{l:List α}(h:Kn b0 w0 w L (R++[row La v l])):La.Own b0 w v l:=h.own R.length (by simp)
theorem Kn.join{w':World}{Rn:List RowE}(h:Kn b0 w0 w L R)(k:Kn w.heap.size w w' [] Rn):Kn b0 w0 w' L (R++Rn):=by
 have hc:=h.call k.b
 have key:∀(i:Nat) x,(R++Rn)[i]?=some x→(i<R.length∧R[i]?=some x)∨(R.length≤i∧Rn[i-R.length]?=some x):=fun i x hx=>by
  rcases Nat.lt_or_ge i R.length with hi|hi
  ·rw[List.getElem?_append_left hi] at hx;exact .inl ⟨hi,hx⟩
  ·rw[List.getElem?_append_right hi] at hx;exact .inr ⟨hi,hx⟩
 refine⟨hc.b,hc.m,hc.l,fun i y hy=>?_,hc.ll,fun i j x y hx hy=>?_,fun i j x y hx hy hij=>?_⟩
 ·rcases key i y hy with ⟨_,hy⟩|⟨_,hy⟩
  ·exact hc.r i y hy
  ·exact World.ownsRow.mono (k.r _ y hy) h.m
 ·rcases key j y hy with ⟨_,hy⟩|⟨_,hy⟩
  ·exact hc.lr i j x y hx hy
  ·intro e
   have h1:=(owns_lt (k.r _ y hy) e).1
   have h2:=(h.l i x hx).2.lt
   omega
 ·rcases key i x hx with ⟨h1,hx⟩|⟨h1,hx⟩<;>rcases key j y hy with ⟨h2,hy⟩|⟨h2,hy⟩
  ·exact hc.rr i j x y hx hy hij
  ·intro g hg e
   have h3:=(owns_lt (h.r i x hx) hg).2
   have h4:=(owns_lt (k.r _ y hy) e).1
   omega
  ·intro g hg e
   have h3:=(owns_lt (h.r j y hy) e).2
   have h4:=(owns_lt (k.r _ x hx) hg).1
   omega
  ·exact k.rr _ _ x y hx hy (by omega)
theorem Kn.mem{P:Program}{α:Type}{La:Lay P α}{v:Value}{l:List α}(h:Kn b0 w0 w L R)(hm:row La v l∈R):La.Own b0 w v l:=by
 obtain⟨i,hi⟩:=List.mem_iff_getElem?.1 hm
 exact h.own i hi
end
structure Fo(o:Sto.Ob):Prop where
 p:Fit o.prs
 v:Fits vaLay vF o.vals
 r:Fits rfLay rF o.refs
 m:Mt.Fit o.mt
 d:o.round≤9223372036854775807
theorem Kn.obs{b0:Nat}{w0 w:World}{L:List (Nat×TypeId×Array Value)}{R:List RowE}{A:Option Addr}{n c:Nat}{l:List Oh}(h:Kn b0 w0 w L R)(h1:row obLay (.slice A n c) l∈R)(h2:∀y∈l.flatMap rows3,y∈R)(hf:∀o∈vs l,Fo o)(hn:n*144≤140737488355328):Obs w A n c l:=by
 have ho:=h.mem h1
 have hl:=ho.reads.1
 refine⟨Sls.own ho ⟨fun x hx=>trivial,?_⟩,fun x hx=>?_⟩
 ·show l.length*144≤_
  rw[← hl];exact hn
 ·have hfo:=hf x.v (List.mem_map.2 ⟨x,hx,rfl⟩)
  have hm:∀y∈rows3 x,y∈R:=fun y hy=>h2 y (List.mem_flatMap.2 ⟨x,hx,hy⟩)
  have m0:row prLay (.slice x.pA x.pn x.pc) x.v.prs∈rows3 x:=List.mem_cons_self ..
  have m1:row vaLay (.slice x.vA x.vn x.vc) x.v.vals∈rows3 x:=List.mem_cons_of_mem _ (List.mem_cons_self ..)
  have m2:row rfLay (.slice x.rA x.rn x.rc) x.v.refs∈rows3 x:=List.mem_cons_of_mem _ (List.mem_cons_of_mem _ (List.mem_cons_self ..))
  exact⟨Sl.own (h.mem (hm _ m0)) hfo.p,Sls.own (h.mem (hm _ m1)) hfo.v,Sls.own (h.mem (hm _ m2)) hfo.r,hfo.m,hfo.d⟩
def IsOJ(r:List Sto.Ob)(w:World)(e:Ending)(w':World):Prop:=∃A n c l,e=.returned (.slice A n c)∧vs l=r∧Kn w.heap.size w w' [] (row obLay (.slice A n c) l::l.flatMap rows3)∧Obs w' A n c l
def OJoins:Prop:=∀(g m:Nat) (ps:List (Pce Oh)) (w:World),ps.length=m→m≤8→g<w.heap.size→(∀i p,ps[i]?=some p→w.cell? ⟨g,i,none⟩=some (.slice p.A p.n p.c))→
 (∀p∈ps,Obs w p.A p.n p.c p.l)→(catP ps).length*144≤140737488355328→Calls Tryz.prog 184 #[.slice (some ⟨g,0,none⟩) m m] w (IsOJ (vs (catP ps)) w)
section
variable {b0:Nat}{w0 w:World}{L:List (Nat×TypeId×Array Value)}{R:List RowE}{g:Nat}{A1 A2 A3:Option Addr}{n1 c1 n2 c2 n3 c3:Nat}{l1 l2 l3:List Oh}
theorem OJoins.one(J:OJoins)(HK:Hid (Kn b0 w0 w L R))(i:Nat)(hL:L[i]?=some (g,22,#[.slice A1 n1 c1]))(h1:Obs w A1 n1 c1 l1):
  Calls Tryz.prog 184 #[.slice (some ⟨g,0,none⟩) 1 1] w (IsOJ (vs l1) w):=by
 have h:=J g 1 [⟨A1,n1,c1,l1⟩] w rfl (by decide) (HK.out.blk i hL).lt (fun j p hp=>by
  match j,hp with
  | 0,hp=>simp at hp;subst hp;exact HK.out.cell i hL 0 rfl) (fun p hp=>by
   rw[List.mem_singleton] at hp;subst hp;exact h1) (by
   show(l1++[]).length*_≤_
   rw[List.append_nil];exact h1.s.fit.big)
 have e:catP [(⟨A1,n1,c1,l1⟩:Pce Oh)]=l1:=by show l1++[]=l1;rw[List.append_nil]
 rw[e] at h
 exact h
theorem OJoins.two(J:OJoins)(HK:Hid (Kn b0 w0 w L R))(i:Nat)(hL:L[i]?=some (g,22,#[.slice A1 n1 c1,.slice A2 n2 c2]))(h1:Obs w A1 n1 c1 l1)(h2:Obs w A2 n2 c2 l2)(ht:(n1+n2)*144≤140737488355328):
  Calls Tryz.prog 184 #[.slice (some ⟨g,0,none⟩) 2 2] w (IsOJ (vs (l1++l2)) w):=by
 have h:=J g 2 [⟨A1,n1,c1,l1⟩,⟨A2,n2,c2,l2⟩] w rfl (by decide) (HK.out.blk i hL).lt (fun j p hp=>by
  match j,hp with
  | 0,hp=>simp at hp;subst hp;exact HK.out.cell i hL 0 rfl
  | 1,hp=>simp at hp;subst hp;exact HK.out.cell i hL 1 rfl) (fun p hp=>by
   simp only[List.mem_cons,List.not_mem_nil,or_false] at hp
   rcases hp with rfl|rfl
   ·exact h1
   ·exact h2) (by
   show(l1++(l2++[])).length*_≤_
   rw[List.append_nil,List.length_append,h1.len,h2.len];exact ht)
 have e:catP [(⟨A1,n1,c1,l1⟩:Pce Oh),⟨A2,n2,c2,l2⟩]=l1++l2:=by show l1++(l2++[])=_;rw[List.append_nil]
 rw[e] at h
 exact h
end
end
section
open Go.RowKit
theorem cells_se:Tryz.prog.cellsOf 30=9:=by kernel_rfl
theorem run_seq(s:Ses.S)(w:World):(Op.equalIn 9999 30 (.agg (seA s)) (.agg (seA s))).run Tryz.prog w=.ok true w:=by
 unfold seA
 go_simp
theorem part_0(t:Ses.T)(w:World):(part 30 (tbA t) (0*9)).run Tryz.prog w=.ok (.agg (seA t.s0)) w:=by kernel_rfl
theorem part_1(t:Ses.T)(w:World):(part 30 (tbA t) (1*9)).run Tryz.prog w=.ok (.agg (seA t.s1)) w:=by kernel_rfl
theorem part_2(t:Ses.T)(w:World):(part 30 (tbA t) (2*9)).run Tryz.prog w=.ok (.agg (seA t.s2)) w:=by kernel_rfl
theorem part_3(t:Ses.T)(w:World):(part 30 (tbA t) (3*9)).run Tryz.prog w=.ok (.agg (seA t.s3)) w:=by kernel_rfl
theorem part_4(t:Ses.T)(w:World):(part 30 (tbA t) (4*9)).run Tryz.prog w=.ok (.agg (seA t.s4)) w:=by kernel_rfl
theorem run_teq(t:Ses.T)(w:World):(Op.equalIn 10000 31 (.agg (tbA t)) (.agg (tbA t))).run Tryz.prog w=.ok true w:=by
 obtain⟨i,hi⟩:∃i,Tryz.prog.info? 30=some i:=Option.isSome_iff_exists.1 (by kernel_rfl)
 rw[run_equalIn_array w 9999 _ _ Tryz.underlying31 hi,cells_se]
 simp only[List.range,List.range.loop,Op.eqItems,Sem.run_bind,part_0,part_1,part_2,part_3,part_4,run_seq,Result.andThen_ok,Bool.not_true,Bool.false_eq_true,if_false,Sem.run_pure]
theorem exec_tbE{w:World}{o:Oper}{a:Act}{t:Ses.T}(x y:Operand)(ho:o.op=.binOp .eql 31 x y 31)(hx:a.eval x=.agg (tbA t))(hy:a.eval y=.agg (tbA t)):
  (execOp a.eval o).run Tryz.prog w=.ok (.value (.bool true)) w:=by
 have h:=run_teq t
 unfold execOp
 simp only[ho,hx,hy]
 go_simp
end
section
namespace Ap
open Sto Ses
def own:List Ot→Rf→Option Rp
 | [],_=>none
 | y::m,r=>if y.r=r then some y.p else own m r
def small(k:Int):Cmd.C:=⟨k,⟨#[]⟩,⟨#[]⟩,⟨0,0,0,⟨#[]⟩⟩,⟨0,0,0,⟨#[]⟩⟩,0,0⟩
end Ap
end
section
namespace Ap
open Sto Ses
def Cur(t:T)(y:Ot):Prop:=(0≤y.r.c∧y.r.c<5)∧y.r.e=(t.get y.r.c).ep∧((y.r.r=(t.get y.r.c).rq∧(t.get y.r.c).dn=true∧y.p=(t.get y.r.c).p)∨((t.get y.r.c).rq<y.r.r∧(t.get y.r.c).live=false∧y.p=err 14))
def Old(t:T)(y:Ot):Prop:=(0≤y.r.c∧y.r.c<5)∧(y.r.e<(t.get y.r.c).ep∨(y.r.e=(t.get y.r.c).ep∧y.r.r<(t.get y.r.c).rq))
structure Good(t:T)(O:List Ot):Prop where
 told:∀y∈O,Old t y∨Cur t y
 one:∀y∈O,∀z∈O,y.r=z.r→y.p=z.p
section
variable {t:T}{O:List Ot}{r:Rf}{c:Int}
theorem Good.nil(t:T):Good t []:=⟨fun y hy=>(by cases hy),fun y hy=>(by cases hy)⟩
theorem Good.sub{O':List Ot}(g:Good t O)(h:∀y∈O',y∈O):Good t O':=⟨fun y hy=>g.told y (h y hy),fun y hy z hz=>g.one y (h y hy) z (h z hz)⟩
theorem cur_same{y z:Ot}(hy:Old t y∨Cur t y)(hz:Cur t z)(e:y.r=z.r):y.p=z.p:=by
 obtain⟨_,z1,z2⟩:=hz
 rcases hy with ⟨_,hy⟩|⟨_,y1,y2⟩
 ·rw[e] at hy
  rcases hy with hy|hy
  ·omega
  ·rcases z2 with ⟨z2,_⟩|⟨z2,_⟩<;>omega
 ·rw[e] at y2
  rcases y2 with ⟨a,b,d⟩|⟨a,b,d⟩<;>rcases z2 with ⟨a',b',d'⟩|⟨a',b',d'⟩
  ·rw[d,d']
  ·omega
  ·omega
  ·rw[d,d']
theorem Good.add(g:Good t O){z:Ot}(h:Cur t z):Good t (O++[z]):=by
 refine⟨fun y hy=>?_,fun y hy x hx e=>?_⟩
 ·rcases List.mem_append.1 hy with hy|hy
  ·exact g.told y hy
  ·rw[List.mem_singleton.1 hy];exact .inr h
 ·rcases List.mem_append.1 hy with hy|hy<;>rcases List.mem_append.1 hx with hx|hx
  ·exact g.one y hy x hx e
  ·rw[List.mem_singleton.1 hx] at e ⊢
   exact cur_same (g.told y hy) h e
  ·rw[List.mem_singleton.1 hy] at e ⊢
   exact(cur_same (g.told x hx) h e.symm).symm
  ·rw[List.mem_singleton.1 hy,List.mem_singleton.1 hx]
theorem Good.set(g:Good t O)(hc:0≤c∧c<5){s:S}(h:∀y∈O,y.r.c=c→Old t y∨Cur t y→Old (t.set c s) y∨Cur (t.set c s) y):Good (t.set c s) O:=by
 refine⟨fun y hy=>?_,g.one⟩
 by_cases e:y.r.c=c
 ·exact h y hy e (g.told y hy)
 ·rcases g.told y hy with k|k
  ·exact .inl ⟨k.1,by rw[get_ne hc k.1 e];exact k.2⟩
  ·exact .inr ⟨k.1,by rw[get_ne hc k.1 e];exact k.2⟩
theorem Good.end_(g:Good t O){x:Rp}(hl:Ses.look t r=3)(hx:rep x=true):Good (endT t r x) (O++[⟨r,x⟩]):=by
 obtain⟨hc,hd,g3,g4,ho⟩:=waits_hd hl
 have e:endT t r x=t.set r.c { t.get r.c with dn:=true,p:=x }:=if_pos ⟨hl,hx⟩
 have g2:Good (endT t r x) O:=by
  rw[e]
  refine g.set hc fun y hy e2 k=>?_
  rcases k with ⟨a,k⟩|⟨a,k1,k2⟩
  ·refine .inl ⟨a,?_⟩
   rw[e2] at k ⊢
   rw[get_set hc]
   exact k
  ·rw[e2] at k1 k2
   rcases k2 with ⟨_,k2,_⟩|⟨_,k3,_⟩
   ·rw[g3] at k2;cases k2
   ·rw[hd.1] at k3;cases k3
 refine g2.add ⟨hc,?_,.inl ⟨?_,?_,?_⟩⟩<;>(show _=_;rw[e,get_set hc])
 ·exact hd.2.1.symm
 ·exact g4
theorem Good.ends{W P H:List Rf}:∀{Y:List Ot} {t:T} {O:List Ot},J t W (Y.map (·.r)++P) H→Good t O→(∀y∈Y,rep y.p=true)→Good (Ap.ends t (prs Y)) (O++Y)
 | [],t,O,_,g,_=>by rw[List.append_nil];exact g
 | y::m,t,O,j,g,h=>by
  have hl:Ses.look t y.r=3:=j.w y.r (List.mem_append.2 (.inr (List.mem_cons_self ..)))
  have hy:=h y (List.mem_cons_self ..)
  have:=Good.ends (Y:=m) (j.end_ hy) (g.end_ hl hy) fun z hz=>h z (List.mem_cons_of_mem _ hz)
  rw[List.append_assoc] at this
  exact this
end
def all(s:St):List Cmd.E→St×List Ot
 | []=>(s,[])
 | e::m=>((all (apS s e) m).1,apO s e++(all (apS s e) m).2)
def s0:St:=⟨0,[],t0⟩
theorem ok_0:Ok s0:=by decide
end Ap
end
section
open Go.RowKit
def fl(b0 b1 b2 b3 b4 b5:Bool):Array Value:=#[.bool b0,.bool b1,.bool b2,.bool b3,.bool b4,.bool b5]
theorem info_fl:(Tryz.prog.info? 159).map (·.size)=some 6:=by kernel_rfl
def IsF(b0 b1 b2 b3 b4 b5:Bool)(w:World)(e:Ending)(w':World):Prop:=e=.returned (.agg (fl b0 b1 b2 b3 b4 b5))∧Below w.heap.size w w'
theorem ret_fl{f:Func}{R:Ending→World→Prop}{a:Act}{w:World}{B:Nat}{b0 b1 b2 b3 b4 b5:Bool}{q:Tmp}(hf:f.results=#[.cell q 159])(h2:a.tmps[q]?=some (.pointer (some ⟨B,0,none⟩)))(hd:a.defers=[])(hb:Blk w B 159 (fl b0 b1 b2 b3 b4 b5))
  (hR:R (.returned (.agg (fl b0 b1 b2 b3 b4 b5))) w):bodyPost Tryz.prog f R Exit.ret a w:=
 bodyPost_ret (results_cell_row hf a.tmps w B _ _ (0,0) _ (by simp[h2]) hb Tryz.underlying159 rfl info_fl) hd hR
end
section
open Go.RowKit
namespace Cmd
def nz:List Int→Int
 | []=>0
 | x::r=>if x≠0 then x else nz r
end Cmd
def IsN(b0 b1 b2 b3 b4 b5 ok:Bool)(w:World)(e:Ending)(w':World):Prop:=e=.returned (.tuple #[.agg (fl b0 b1 b2 b3 b4 b5),.bool ok])∧Below w.heap.size w w'
theorem ret_fln{f:Func}{R:Ending→World→Prop}{a:Act}{w:World}{B:Nat}{b0 b1 b2 b3 b4 b5:Bool}{u:Value}{k q:Tmp}(hf:f.results=#[.cell k 159,.tmp q])(h2:a.tmps[k]?=some (.pointer (some ⟨B,0,none⟩)))(h4:a.tmps[q]?=some u)(hd:a.defers=[])
  (hb:Blk w B 159 (fl b0 b1 b2 b3 b4 b5)) (hR:R (.returned (.tuple #[.agg (fl b0 b1 b2 b3 b4 b5),u])) w):bodyPost Tryz.prog f R Exit.ret a w:=by
 refine bodyPost_ret (v:=.tuple #[.agg (fl b0 b1 b2 b3 b4 b5),u]) ?_ hd hR
 have h:=run_loadVar_row (P:=Tryz.prog) w B _ _ _ (0,0) _ hb Tryz.underlying159 rfl info_fl
 simp[results,hf,asAddr,Sem.run_bind,h2,h4,h]
end
section
open Go.RowKit
theorem emp_l{s:ByteArray}:s.size=0↔s.toList=[]:=by
 constructor
 ·intro h
  rw[Cmd.size_emp h,ByteArray.toList_eq];rfl
 ·intro h
  rw[ByteArray.toList_eq] at h
  have:=congrArg List.length h
  simpa using this
end
section
open Go.RowKit
theorem snamed_any(s:ByteArray)(w:World):Calls Tryz.prog 78 #[.string s] w (IsB (decide (Sto.named s)) w):=by
 unfold IsB
 by_cases h:s.size=0
 ·have h1:s.toList=[]:=emp_l.1 h
  have hd:decide (Sto.named s)=false:=decide_eq_false fun g=>g.1 h
  rw[hd]
  clear hd h
  go_enter Tryz.func78,Tryz.ntmps78
  go_wp2_with fail
  go_ret
  exact⟨rfl,Below.refl _ _⟩
 ·have h1:¬s.toList=[]:=fun g=>h (emp_l.2 g)
  by_cases h2:s.size≤16
  ·have hd:decide (Sto.named s)=true:=decide_eq_true ⟨h,h2⟩
   rw[hd]
   clear hd
   go_enter Tryz.func78,Tryz.ntmps78
   go_wp2_with fail
   go_ret
   exact⟨by simp[h1];omega,Below.refl _ _⟩
  ·have hd:decide (Sto.named s)=false:=decide_eq_false fun g=>h2 g.2
   rw[hd]
   clear hd
   go_enter Tryz.func78,Tryz.ntmps78
   go_wp2_with fail
   go_ret
   exact⟨by simp[h1];omega,Below.refl _ _⟩
end
section
open Go.RowKit
section
variable {b0:Nat}{w0 w:World}{L:List (Nat×TypeId×Array Value)}{R:List RowE}{ops:Array Oper}{rest:List Oper}{o:Oper}{a:Act}{Q:Exit→Act→World→Prop}
theorem wpList_akF(HK:Hid (Kn b0 w0 w L R))(hgd:o.guard=none)(ho:o.op=.alloc 159)
  (h:∀w' g,Hid (Kn b0 w0 w' (L++[(g,159,fl false false false false false false)]) R)→wpList Tryz.prog ops Q rest (a.put o.dst (.pointer (some ⟨g,0,none⟩))) w'):wpList Tryz.prog ops Q (o::rest) a w:=
 wpList_plain hgd fun K hK=>by
  have h4:=h _ w.heap.size (zH (HK.out.alloc _ _))
  unfold Oper.wp execOp
  simp only[ho]
  unfold fl at h4
  go_simp
  exact hK _ _ h4
theorem wpList_sfL(HK:Hid (Kn b0 w0 w L R))(i:Nat)(hgd:o.guard=none)(p q:Operand)(ho:o.op=.store 159 p q){g:Nat}{x0 x1 x2 x3 x4 x5 y0 y1 y2 y3 y4 y5:Bool}(hL:L[i]?=some (g,159,fl x0 x1 x2 x3 x4 x5))(hx:a.eval p=.pointer (some ⟨g,0,none⟩))(hy:a.eval q=.agg (fl y0 y1 y2 y3 y4 y5))
  (h:∀w',Hid (Kn b0 w0 w' (L.set i (g,159,fl y0 y1 y2 y3 y4 y5)) R)→Hid (w'.heap.size=w.heap.size)→wpList Tryz.prog ops Q rest (a.put o.dst undef) w'):wpList Tryz.prog ops Q (o::rest) a w:=
 wpList_ss HK i hgd _ p q ho hL hx hy (by show 6≤6;decide) info_fl (by simp[fl,Value.oneCell']) fun w' h1 h2=>h w' (by
  have e:putCells (fl x0 x1 x2 x3 x4 x5) 0 (fl y0 y1 y2 y3 y4 y5).toList=fl y0 y1 y2 y3 y4 y5:=by
   rw[putCells_all (vs:=(fl y0 y1 y2 y3 y4 y5).toList) (cs:=fl x0 x1 x2 x3 x4 x5) rfl,Array.toArray_toList]
  rw[e] at h1
  exact h1) h2
end
def at6(b0 b1 b2 b3 b4 b5:Bool):Nat→Bool
 | 0=>b0
 | 1=>b1
 | 2=>b2
 | 3=>b3
 | 4=>b4
 | _=>b5
theorem at6_cell{b0 b1 b2 b3 b4 b5:Bool}{k:Nat}(h:k<6):(fl b0 b1 b2 b3 b4 b5)[k]?=some (.bool (at6 b0 b1 b2 b3 b4 b5 k)):=by
 match k,h with
 | 0,_|1,_|2,_|3,_|4,_|5,_=>rfl
end
section
open Go.RowKit
theorem isH{k:Int}{b0 b1 b2 b3 b4 b5 ok:Bool}{w:World}{e:Ending}{w':World}(h:IsN b0 b1 b2 b3 b4 b5 ok w e w')(e0:Sto.h0 k=b0)(e1:Sto.h1 k=b1)(e2:Sto.h2 k=b2)(e3:Sto.h3 k=b3)(e4:Sto.h4 k=b4)(e5:Sto.h5 k=b5)(e6:Sto.is k=ok):
  IsN (Sto.h0 k) (Sto.h1 k) (Sto.h2 k) (Sto.h3 k) (Sto.h4 k) (Sto.h5 k) (Sto.is k) w e w':=by
 rw[e0,e1,e2,e3,e4,e5,e6];exact h
theorem having_any(k:Int)(w:World):Calls Tryz.prog 140 #[.int .i64 k] w (IsN (Sto.h0 k) (Sto.h1 k) (Sto.h2 k) (Sto.h3 k) (Sto.h4 k) (Sto.h5 k) (Sto.is k) w):=by
 have hk:k=1∨k=2∨k=3∨k=4∨k=5∨¬(1≤k∧k≤5):=by omega
 rcases hk with rfl|rfl|rfl|rfl|rfl|h
 case inr.inr.inr.inr.inr=>
  have n1:¬k=1:=by omega
  have n2:¬k=2:=by omega
  have n3:¬k=3:=by omega
  have n4:¬k=4:=by omega
  have n5:¬k=5:=by omega
  refine Calls.mono (R:=IsN false false false false false false false w) ?_ fun e w' hh=>isH hh (by unfold Sto.h0;simp[n2,n4]) (by unfold Sto.h1;simp[n1]) (by unfold Sto.h2;simp[n2]) (by unfold Sto.h3;simp[n3,n4]) (by unfold Sto.h4;simp[n4]) (by unfold Sto.h5;simp[n5]) (by unfold Sto.is;simp;omega)
  clear h
  go_enter Tryz.func140,Tryz.ntmps140
  go_wp2_with fail
  exact ret_fln Tryz.results140 rfl rfl rfl (Blk.new w _ _) ⟨rfl,(Below.refl _ w).alloc (Nat.le_refl _) _⟩
 all_goals
  go_enter Tryz.func140,Tryz.ntmps140
  go_wp2_with fail
  exact ret_fln Tryz.results140 rfl rfl rfl (Blk.new w _ _) ⟨rfl,(Below.refl _ w).alloc (Nat.le_refl _) _⟩
theorem exec_mne{w:World}{o:Oper}{a:Act}{x y:Mtr}{b:Bool}(p q:Operand)(ho:o.op=.binOp .neq 61 p q 61)(hx:a.eval p=.agg #[.int .i64 x.n,.int .u64 (x.s:Int),.int .u64 (x.l:Int),.int .u64 (x.m:Int)])(hy:a.eval q=.agg #[.int .i64 y.n,.int .u64 (y.s:Int),.int .u64 (y.l:Int),.int .u64 (y.m:Int)])(hb:(!decide (x=y))=b):
  (execOp a.eval o).run Tryz.prog w=.ok (.value (.bool b)) w:=by
 rw[meq_all] at hb
 subst hb
 unfold execOp
 simp only[ho,hx,hy]
 go_simp
 by_cases h1:x.n=y.n<;>by_cases h2:(x.s:Int)=(y.s:Int)<;>by_cases h3:(x.l:Int)=(y.l:Int)<;>by_cases h4:(x.m:Int)=(y.m:Int)<;>simp[h1,h2,h3,h4]
theorem sfilled_any(x:Oh)(w:World)(hx:In w x):Calls Tryz.prog 141 #[.agg (obA x)] w (IsF (Sto.f0 x.v) (Sto.f1 x.v) (Sto.f2 x.v) (Sto.f3 x.v) (Sto.f4 x.v) (Sto.f5 x.v) w):=by
 have hp:=hx.p.len
 have hv:=hx.v.len
 have hr:=hx.r.len
 unfold IsF Sto.f0 Sto.f1 Sto.f2 Sto.f3 Sto.f4 Sto.f5
 rw[hp,hv,hr]
 clear hp hv hr hx
 have HK:=kn2 w 63 (obA x) 159 (fl false false false false false false)
 go_enter Tryz.func141,Tryz.ntmps141
 go_wp2_with fail
 replace HK:=zH HK.out.drew
 refine wp_region_held_drew (S:=(fun W=>Hid (Kn w.heap.size w W [(w.heap.size,63,obA x)] []))) (by kernel_rfl) ?_ (fun hHeld=>?_)
 ·(try dsimp only);exact zH (HK.out.takeL 1)
 refine stk 0 3 rfl ?_
 refine stk 1 4 rfl ?_ (fun w hSw=>kob_c hSw 0 _ (by rfl) (by rfl) (by rfl))
 refine stk 2 5 rfl ?_
 refine stk 3 6 rfl ?_
 refine stk 4 7 rfl ?_ (fun w hSw=>kob_p hSw 0 _ (by rfl) (by rfl) (by rfl))
 refine stk 5 8 rfl ?_
 refine stk 6 9 rfl ?_
 refine stk 7 10 rfl ?_
 refine stk 8 11 rfl ?_ (fun w hSw=>kob_v hSw 0 _ (by rfl) (by rfl) (by rfl))
 refine stk 9 12 rfl ?_
 refine stk 10 13 rfl ?_
 refine stk 11 14 rfl ?_
 refine stk 12 15 rfl ?_ (fun w hSw=>kob_r hSw 0 _ (by rfl) (by rfl) (by rfl))
 refine stk 13 16 rfl ?_
 refine stk 14 17 rfl ?_
 refine stk 15 18 rfl ?_
 refine stk 16 19 rfl ?_ (fun w hSw=>kob_d hSw 0 _ (by rfl) (by rfl) (by rfl))
 refine stk 17 20 rfl ?_
 refine stk 18 21 rfl ?_
 refine stk 19 22 rfl ?_ (fun w hSw=>kob_m hSw 0 _ (by rfl) (by rfl) (by rfl))
 refine stk 20 23 rfl ?_
 refine stk 21 24 rfl ?_ (fun w hSw=>exec_mne (x:=x.v.mt) (y:=Mt.zero) _ _ (by rfl) (by rfl) (by rfl) (b:=!decide (x.v.mt=Mt.zero)) rfl)
 refine stk 22 25 rfl ?_
 refine srd1 23 none rfl (fun K hK=>?_)
 refine step_ss HK 1 (by rfl) _ _ _ (by rfl) (by rfl) (by rfl) (by rfl) (by show 6≤6;decide) info_fl (by simp[Value.oneCell']) ?_;intro _ HK' _;simp only[List.set] at HK';replace HK:=HK';clear HK';have hs:=zH (HK.out.takeL 1)
 refine hK.out _ _ hs (fun hHeld=>?_)
 clear hK K
 try simp only[ap1,ap2,ap3,ap4,ap5]
 refine wpAnyH_done (by kernel_rfl) ?_ _
 go_wp2_with fail
 refine ret_fl (b0:=!decide (x.v.cap=0)) (b1:=decide (0<x.pn)) (b2:=decide (0<x.vn)) (b3:=decide (0<x.rn)) (b4:=!decide (x.v.round=0)) Tryz.results141 rfl rfl ?_ ⟨rfl,HK.out.b⟩
 have hb:=HK.out.blk 1 rfl
 clear HK hHeld
 simp[putCells,fl] at hb ⊢
 exact hb
theorem clean_at(o:Sto.Ob):Sto.clean o=true↔Sto.is o.kind=true∧∀j,j<6→¬(at6 (Sto.f0 o) (Sto.f1 o) (Sto.f2 o) (Sto.f3 o) (Sto.f4 o) (Sto.f5 o) j=true∧at6 (Sto.h0 o.kind) (Sto.h1 o.kind) (Sto.h2 o.kind) (Sto.h3 o.kind) (Sto.h4 o.kind) (Sto.h5 o.kind) j=false):=by
 unfold Sto.clean
 generalize Sto.f0 o=b0
 generalize Sto.f1 o=b1
 generalize Sto.f2 o=b2
 generalize Sto.f3 o=b3
 generalize Sto.f4 o=b4
 generalize Sto.f5 o=b5
 generalize Sto.h0 o.kind=a0
 generalize Sto.h1 o.kind=a1
 generalize Sto.h2 o.kind=a2
 generalize Sto.h3 o.kind=a3
 generalize Sto.h4 o.kind=a4
 generalize Sto.h5 o.kind=a5
 have key:∀b a:Bool,(!b || a)=true↔¬(b=true∧a=false):=fun b a=>by cases b<;>cases a<;>simp
 simp only[Bool.and_eq_true,key]
 constructor
 ·rintro ⟨h,⟨⟨⟨⟨⟨g0,g1⟩,g2⟩,g3⟩,g4⟩,g5⟩⟩
  refine⟨h,fun j hj=>?_⟩
  match j,hj with
  | 0,_=>exact g0
  | 1,_=>exact g1
  | 2,_=>exact g2
  | 3,_=>exact g3
  | 4,_=>exact g4
  | 5,_=>exact g5
 ·rintro ⟨h,g⟩
  exact⟨h,⟨⟨⟨⟨⟨g 0 (by decide),g 1 (by decide)⟩,g 2 (by decide)⟩,g 3 (by decide)⟩,g 4 (by decide)⟩,g 5 (by decide)⟩⟩
theorem clean_any(x:Oh)(w:World)(hx:In w x):Calls Tryz.prog 79 #[.agg (obA x)] w (IsB (Sto.clean x.v) w):=by
 have HN:=zH (fun W=>having_any x.v.kind W)
 have HF:=zH (fun W (hW:Below w.heap.size w W)=>sfilled_any x W (hx.later hW))
 have H0:=zH (clean_at x.v)
 clear hx
 unfold IsB IsN IsF at *
 generalize Sto.clean x.v=z at *
 generalize Sto.h0 x.v.kind=a0 at *
 generalize Sto.h1 x.v.kind=a1 at *
 generalize Sto.h2 x.v.kind=a2 at *
 generalize Sto.h3 x.v.kind=a3 at *
 generalize Sto.h4 x.v.kind=a4 at *
 generalize Sto.h5 x.v.kind=a5 at *
 generalize Sto.is x.v.kind=ok at *
 generalize Sto.f0 x.v=b0 at *
 generalize Sto.f1 x.v=b1 at *
 generalize Sto.f2 x.v=b2 at *
 generalize Sto.f3 x.v=b3 at *
 generalize Sto.f4 x.v=b4 at *
 generalize Sto.f5 x.v=b5 at *
 have HK:=kn1 w 63 (obA x)
 go_enter Tryz.func79,Tryz.ntmps79
 go_wp2_with (first|refine zX (kob_k HK 0 _ (by rfl) (by rfl) (by rfl)) ?_)
 refine(HN.out _).mono ?_;rintro e w1 ⟨rfl,x1⟩
 replace HK:=hkC HK x1
 clear x1
 go_upto_region 2 with (first|(refine wpList_akF HK rfl rfl ?_;intro _ g3 HK';simp only[lcA,lnA] at HK';replace HK:=HK';clear HK')|(refine wpList_sfL HK 1 rfl _ _ rfl rfl rfl rfl ?_;intro _ HK' _;simp only[List.set] at HK';replace HK:=HK';clear HK'))
 go_wp2_with (first|refine zX (kob HK 0 _ (by rfl) (by rfl) (by rfl)) ?_)
 refine(HF.out _ HK.out.b).mono ?_;rintro e w2 ⟨rfl,x2⟩
 replace HK:=hkC HK x2
 clear x2
 go_upto_region 3 with (first|(refine wpList_akF HK rfl rfl ?_;intro _ g4 HK';simp only[lcA,lnA] at HK';replace HK:=HK';clear HK')|(refine wpList_sfL HK 2 rfl _ _ rfl rfl rfl rfl ?_;intro wz HK' _;simp only[List.set] at HK';replace HK:=HK';clear HK'))
 have HG:Hid (∀j,j<6→wz.cell? ⟨g3,j,none⟩=some (.bool (at6 a0 a1 a2 a3 a4 a5 j))∧wz.cell? ⟨g4,j,none⟩=some (.bool (at6 b0 b1 b2 b3 b4 b5 j))):=zH fun j hj=>And.intro (HK.out.cell 1 rfl j (at6_cell hj)) (HK.out.cell 2 rfl j (at6_cell hj))
 have HKB:=zH HK.out.b
 clear HK HN HF
 generalize HA:at6 a0 a1 a2 a3 a4 a5=fa at *
 generalize HBf:at6 b0 b1 b2 b3 b4 b5=fb at *
 clear HA HBf
 go_wp2_with fail
 go_loopw [15] (fun vi wr=>∃k:Nat,k≤6∧vi=.int .i64 k∧wr=wz∧Hid (∀j,j<k→¬(fb j=true∧fa j=false))) (fun vi _=>6-(intOf vi).toNat)
 case atStart=>exact⟨0,Nat.zero_le _,rfl,rfl,zH fun j hj=>absurd hj (by omega)⟩
 case round=>
  obtain⟨q,hq,rfl,rfl,hh⟩:=hrel
  by_cases hlt:q<6
  ·obtain⟨c1,c2⟩:=HG.out q hlt
   have hk1:(0:Int)≤(q:Int):=by omega
   have hk2:(q:Int)<6:=by omega
   have HS:Hid (¬(fb q=true∧fa q=false)→∀j,j<q+1→¬(fb j=true∧fa j=false)):=zH fun h j hj=>by
    by_cases e:j=q
    ·subst e;exact h
    ·exact hh.out j (by omega)
   have HX:Hid ((fb q=true∧fa q=false)→z=false):=zH fun h=>Bool.eq_false_iff.2 fun hz=>(H0.out.1 hz).2 q hlt h
   generalize fa q=xa at *
   generalize fb q=xb at *
   have hc:xb=false∨(xb=true∧xa=true)∨(xb=true∧xa=false):=by cases xa<;>cases xb<;>simp
   rcases hc with rfl|⟨rfl,rfl⟩|⟨rfl,rfl⟩
   ·go_wp2_with fail
    exact⟨⟨q+1,by omega,by go_num,by simp,zH (HS.out (by simp))⟩,by simp[intOf];omega⟩
   ·go_wp2_with fail
    exact⟨⟨q+1,by omega,by go_num,by simp,zH (HS.out (by simp))⟩,by simp[intOf];omega⟩
   ·go_wp2_with fail
    go_ret
    have hz:=HX.out (by simp)
    subst hz
    exact⟨rfl,HKB.out⟩
  ·obtain rfl:q=6:=by omega
   have hz:z=ok:=by
    cases ok
    ·exact Bool.eq_false_iff.2 fun hz=>by cases (H0.out.1 hz).1
    ·exact H0.out.2 ⟨rfl,hh.out⟩
   subst hz
   go_wp2_with fail
   go_ret
   exact⟨rfl,HKB.out⟩
end
section
open Go.RowKit
theorem pchk_any(key:ByteArray)(v:Val.V)(w:World)(hf:v.f<18446744073709551616):
  Calls Tryz.prog 207 #[.string key,vv v] w (IsE (Dct.pchk key v) w):=by
 have HC:=zH (fun W=>check_any v W hf)
 clear hf
 unfold Dct.pchk
 obtain⟨k,n,f,s⟩:=v
 unfold vv IsE at *
 simp only at HC ⊢
 generalize Val.chk ⟨k,n,f,s⟩=z at *
 have HK:=kn1 w 26 (vC k n f s)
 unfold vC at HK
 by_cases hk:k=0
 ·subst hk
  rw[if_pos rfl]
  go_enter Tryz.func207,Tryz.ntmps207
  go_wp2_with fail
  go_ret
  exact⟨rfl,HK.out.b⟩
 ·rw[if_neg hk]
  have hk2:(k==0)=false:=by simpa using hk
  by_cases hl:64<key.size
  ·rw[if_pos hl]
   have hl2:64<(key.size:Int):=by omega
   go_enter Tryz.func207,Tryz.ntmps207
   go_wp2_with fail
   go_ret
   exact⟨rfl,HK.out.b⟩
  ·rw[if_neg hl]
   have hl2:¬64<(key.size:Int):=by omega
   go_enter Tryz.func207,Tryz.ntmps207
   go_wp2_with (first|refine wpList_of_exec (by rfl) (kexec_vv HK 0 _ rfl rfl rfl) ?_)
   refine(HC.out _).mono ?_;rintro e w1 ⟨rfl,b1⟩
   replace HK:=hkC HK b1
   go_wp2_with fail
   go_ret
   exact⟨rfl,HK.out.b⟩
end
section
open Go.RowKit
theorem right_told{l:List Dct.Pr}{n:Nat}(hl:l.length=n)(hn:n≤8):(∀i,i<n→¬Dct.Good l i→decide (Dct.Right l)=false)∧((∀i,i<n→Dct.Good l i)→decide (Dct.Right l)=true):=by
 subst hl
 exact⟨fun i hi hg=>decide_eq_false fun h=>hg (((Dct.right_iff l).1 h).2 i hi),fun h=>decide_eq_true ((Dct.right_iff l).2 ⟨hn,h⟩)⟩
theorem right_any(A:Option Addr)(c n:Nat)(l:List Dct.Pr)(w:World)(hs:Sl w A n c l):
  Calls Tryz.prog 142 #[.slice A n c] w (IsB (decide (Dct.Right l)) w):=by
 by_cases hn:8<n
 ·have hd:decide (Dct.Right l)=false:=decide_eq_false fun h=>by have:=h.len;rw[hs.len] at this;omega
  rw[hd]
  have hn2:8<(n:Int):=by omega
  clear hs hd
  go_enter Tryz.func142,Tryz.ntmps142
  go_wp2_with fail
  go_ret
  exact⟨rfl,Below.refl _ w⟩
 have HS:=zH hs
 obtain⟨hno,hyes⟩:=right_told hs.len (by omega:n≤8)
 have HNo:=zH hno
 have HYes:=zH hyes
 have HG:Hid (∀k,k<n→∃x,l[k]?=some x∧x.val.f<18446744073709551616):=zH fun k hk=>by
  obtain⟨x,hx⟩:=Lay.get_of (l:=l) (k:=k) (by rw[hs.len];exact hk)
  exact⟨x,hx,hs.fs x (List.mem_of_getElem? hx)⟩
 clear hs hno hyes
 generalize decide (Dct.Right l)=r at *
 have hn2:¬8<(n:Int):=by omega
 have HK:=zH (Kn.start w)
 go_enter Tryz.func142,Tryz.ntmps142
 go_wp2_with fail
 go_loopw [10] (fun vi wr=>∃k:Nat,k≤n∧vi=.int .i64 k∧Hid (∀i,i<k→Dct.Good l i)∧Hid (Kn w.heap.size w wr [] [])) (fun vi _=>n-(intOf vi).toNat)
 case atStart=>exact⟨0,Nat.zero_le _,rfl,zH (fun i hi=>by omega),HK⟩
 case round=>
  clear HK
  obtain⟨k,hk,rfl,HGo,HK⟩:=hrel
  by_cases hlt:k<n
  ·obtain⟨x,hx,hf⟩:=HG.out k hlt
   obtain⟨b,o,rfl,hat⟩:=HS.out.at (Nat.lt_of_le_of_lt (Nat.zero_le _) hlt)
   have HX:=zH (fun W hW=>hat W hW k x hx)
   have HPrev:Hid (∀j,k=j+1→∃y,l[j]?=some y∧∀W,Below w.heap.size w W→∀i v,(prL y)[i]?=some v→W.cell? ⟨b,o+j*5+i,none⟩=some v):=zH fun j hj=>by
    obtain⟨y,hy,_⟩:=HG.out j (by omega)
    exact⟨y,hy,fun W hW=>hat W hW j y hy⟩
   have HCk:=zH (fun W=>pchk_any x.key x.val W hf)
   have HIf:Hid (Dct.Good l k↔(Dct.pchk x.key x.val=0∧∀j y,k=j+1→l[j]?=some y→Dct.lt y.key x.key=true)):=zH ⟨fun h=>h x hx,fun h x' hx'=>by rw[hx] at hx';injection hx' with hx';subst hx';exact h⟩
   clear hat hf hx
   obtain⟨key,vk,vn,vf,vs⟩:=x
   unfold vv IsE at HCk
   simp only at HCk HIf
   generalize Dct.pchk key ⟨vk,vn,vf,vs⟩=z at *
   have hk1:(0:Int)≤(k:Int):=by omega
   have hk2:(k:Int)<(n:Int):=by omega
   go_wp2_with (first|(refine wpList_of_exec (v:=.agg (prA ⟨key,vk,vn,vf,vs⟩)) (by rfl) (exec_lpr (off:=o+k*5) _ (by rfl) (by rfl) (HX.out _ HK.out.b)) ?_)|(refine wpList_akp HK rfl rfl ?_;intro _ g2 HK';simp only[lnA] at HK';replace HK:=HK';clear HK')|(refine wpList_sp (p1:=⟨⟨#[]⟩,⟨0,0,0,⟨#[]⟩⟩⟩) HK 0 rfl _ _ rfl rfl rfl rfl ?_;intro _ HK';simp only[List.set] at HK';replace HK:=HK';clear HK'))
   unfold prA at HK
   simp only at HK
   by_cases hz:z=0
   ·subst hz
    rcases Nat.eq_zero_or_pos k with rfl|hpos
    ·clear HPrev
     refine wp_region_held_drew (S:=(fun W=>Hid (Kn w.heap.size w W [(g2,103,prC key vk vn vf vs)] []))) (by kernel_rfl) ?_ (fun hHeld=>?_)
     ·(try dsimp only);exact zH HK.out.drew
     refine stk 0 15 rfl ?_
     refine stk 1 16 rfl ?_ (fun w hSw=>kexec_ppk hSw 0 _ (by rfl) (by rfl) (by rfl))
     refine stk 2 17 rfl ?_
     refine stk 3 18 rfl ?_ (fun w hSw=>kexec_ppv hSw 0 _ (by rfl) (by rfl) (by rfl))
     refine srd1 4 (some 19) rfl (fun K hK=>?_)
     go_simp
     go_at_call 207
     refine(HCk.out _).mono ?_;rintro e w5 ⟨rfl,b5⟩;have hs:=zH (hHeld.out.call b5);clear b5
     refine hK.out _ _ hs (fun hHeld=>?_)
     clear hK K
     try simp only[ap1,ap2,ap3,ap4,ap5]
     refine stk 5 20 rfl ?_
     refine stk 6 21 rfl ?_
     refine stk 7 22 rfl ?_
     refine stk 8 23 rfl ?_
     refine stk 9 24 rfl ?_
     refine stu 10 25 rfl ?_
     refine stu 11 26 rfl ?_
     refine stu 12 27 rfl ?_
     refine stu 13 28 rfl ?_
     refine stu 14 29 rfl ?_
     refine stu 15 30 rfl ?_
     refine stu 16 31 rfl ?_
     refine stu 17 32 rfl ?_
     refine stu 18 33 rfl ?_
     refine stk 19 34 rfl ?_
     refine stk 20 35 rfl ?_
     refine wpAnyH_done (by kernel_rfl) ?_ _
     go_wp2_with fail
     exact⟨⟨1,by omega,by go_num,zH (fun i hi=>by
      obtain rfl:i=0:=by omega
      exact HIf.out.2 ⟨rfl,fun j y h _=>by omega⟩),zH (hHeld.out.takeL 0)⟩,by simp[intOf];omega⟩
    ·obtain⟨j,rfl⟩:∃j,k=j+1:=⟨k-1,by omega⟩
     clear hpos
     obtain⟨y,hy,hyc⟩:=HPrev.out j rfl
     have HY:=zH hyc
     have HYl:=zH hy
     clear hy hyc HPrev
     have hj:j<n:=by omega
     have hj2:j<9223372036854775807:=by omega
     have hj3:((j+1:Nat):Int) > 0:=by omega
     cases hlt2:Dct.lt y.key key with
     | true=>
      have hb:(!Dct.lt y.key key)=false:=by rw[hlt2];rfl
      refine wp_region_held_drew (S:=(fun W=>Hid (Kn w.heap.size w W [(g2,103,prC key vk vn vf vs)] []))) (by kernel_rfl) ?_ (fun hHeld=>?_)
      ·(try dsimp only);exact zH HK.out.drew
      refine stk 0 15 rfl ?_
      refine stk 1 16 rfl ?_ (fun w hSw=>kexec_ppk hSw 0 _ (by rfl) (by rfl) (by rfl))
      refine stk 2 17 rfl ?_
      refine stk 3 18 rfl ?_ (fun w hSw=>kexec_ppv hSw 0 _ (by rfl) (by rfl) (by rfl))
      refine srd1 4 (some 19) rfl (fun K hK=>?_)
      go_simp
      go_at_call 207
      refine(HCk.out _).mono ?_;rintro e w5 ⟨rfl,b5⟩;have hs:=zH (hHeld.out.call b5);clear b5
      refine hK.out _ _ hs (fun hHeld=>?_)
      clear hK K
      try simp only[ap1,ap2,ap3,ap4,ap5]
      refine stk 5 20 rfl ?_
      refine stk 6 21 rfl ?_
      refine stk 7 22 rfl ?_
      refine stk 8 23 rfl ?_
      refine stk 9 24 rfl ?_
      refine stk 10 25 rfl ?_
      refine stk 11 26 rfl ?_ (fun w hSw=>kexec_ppk hSw 0 _ (by rfl) (by rfl) (by rfl))
      refine stk 12 27 rfl ?_
      refine stk 13 28 rfl ?_
      refine stk 14 29 rfl ?_ (fun w hSw=>exec_sub1 (j:=j) _ (by rfl) (by rfl) hj2)
      refine stk 15 30 rfl ?_ (fun w hSw=>exec_ix (i:=j) _ _ (by rfl) (by rfl) (by rfl) hj)
      refine stk 16 31 rfl ?_
      refine stk 17 32 rfl ?_ (fun w hSw=>exec_lpk (off:=o+j*5) _ (by rfl) (by rfl) (HY.out _ hSw.out.b))
      refine stk 18 33 rfl ?_ (fun w hSw=>exec_sle _ _ (by rfl) (by rfl) (by rfl) hb)
      refine stk 19 34 rfl ?_
      refine stk 20 35 rfl ?_
      refine wpAnyH_done (by kernel_rfl) ?_ _
      go_wp2_with fail
      exact⟨⟨j+2,by omega,by go_num,zH (fun i hi=>by
       by_cases hij:i=j+1
       ·subst hij
        refine HIf.out.2 ⟨rfl,fun j' y' h h'=>?_⟩
        obtain rfl:j=j':=by omega
        rw[HYl.out] at h'
        injection h' with h'
        subst h'
        exact hlt2
       ·exact HGo.out i (by omega)),zH (hHeld.out.takeL 0)⟩,by simp[intOf];omega⟩
     | false=>
      have hb:(!Dct.lt y.key key)=true:=by rw[hlt2];rfl
      have HR:Hid (r=false):=zH (HNo.out _ hlt fun h=>by
       have:=(HIf.out.1 h).2 j y rfl HYl.out
       rw[hlt2] at this;cases this)
      refine wp_region_held_drew (S:=(fun W=>Hid (Kn w.heap.size w W [(g2,103,prC key vk vn vf vs)] []))) (by kernel_rfl) ?_ (fun hHeld=>?_)
      ·(try dsimp only);exact zH HK.out.drew
      refine stk 0 15 rfl ?_
      refine stk 1 16 rfl ?_ (fun w hSw=>kexec_ppk hSw 0 _ (by rfl) (by rfl) (by rfl))
      refine stk 2 17 rfl ?_
      refine stk 3 18 rfl ?_ (fun w hSw=>kexec_ppv hSw 0 _ (by rfl) (by rfl) (by rfl))
      refine srd1 4 (some 19) rfl (fun K hK=>?_)
      go_simp
      go_at_call 207
      refine(HCk.out _).mono ?_;rintro e w5 ⟨rfl,b5⟩;have hs:=zH (hHeld.out.call b5);clear b5
      refine hK.out _ _ hs (fun hHeld=>?_)
      clear hK K
      try simp only[ap1,ap2,ap3,ap4,ap5]
      refine stk 5 20 rfl ?_
      refine stk 6 21 rfl ?_
      refine stk 7 22 rfl ?_
      refine stk 8 23 rfl ?_
      refine stk 9 24 rfl ?_
      refine stk 10 25 rfl ?_
      refine stk 11 26 rfl ?_ (fun w hSw=>kexec_ppk hSw 0 _ (by rfl) (by rfl) (by rfl))
      refine stk 12 27 rfl ?_
      refine stk 13 28 rfl ?_
      refine stk 14 29 rfl ?_ (fun w hSw=>exec_sub1 (j:=j) _ (by rfl) (by rfl) hj2)
      refine stk 15 30 rfl ?_ (fun w hSw=>exec_ix (i:=j) _ _ (by rfl) (by rfl) (by rfl) hj)
      refine stk 16 31 rfl ?_
      refine stk 17 32 rfl ?_ (fun w hSw=>exec_lpk (off:=o+j*5) _ (by rfl) (by rfl) (HY.out _ hSw.out.b))
      refine stk 18 33 rfl ?_ (fun w hSw=>exec_sle _ _ (by rfl) (by rfl) (by rfl) hb)
      refine stk 19 34 rfl ?_
      refine stk 20 35 rfl ?_
      refine wpAnyH_done (by kernel_rfl) ?_ _
      go_wp2_with fail
      go_ret
      exact⟨by rw[HR.out]<;>rfl,hHeld.out.b⟩
   ·have HR:Hid (r=false):=zH (HNo.out k hlt fun h=>hz (HIf.out.1 h).1)
    have hz2:(z != 0)=true:=by simpa using hz
    refine wp_region_held_drew (S:=(fun W=>Hid (Kn w.heap.size w W [(g2,103,prC key vk vn vf vs)] []))) (by kernel_rfl) ?_ (fun hHeld=>?_)
    ·(try dsimp only);exact zH HK.out.drew
    refine stk 0 15 rfl ?_
    refine stk 1 16 rfl ?_ (fun w hSw=>kexec_ppk hSw 0 _ (by rfl) (by rfl) (by rfl))
    refine stk 2 17 rfl ?_
    refine stk 3 18 rfl ?_ (fun w hSw=>kexec_ppv hSw 0 _ (by rfl) (by rfl) (by rfl))
    refine srd1 4 (some 19) rfl (fun K hK=>?_)
    go_simp
    go_at_call 207
    refine(HCk.out _).mono ?_;rintro e w5 ⟨rfl,b5⟩;have hs:=zH (hHeld.out.call b5);clear b5
    refine hK.out _ _ hs (fun hHeld=>?_)
    clear hK K
    try simp only[ap1,ap2,ap3,ap4,ap5]
    refine stk 5 20 rfl ?_
    refine stk 6 21 rfl ?_
    refine stu 7 22 rfl ?_
    refine stu 8 23 rfl ?_
    refine stu 9 24 rfl ?_
    refine stu 10 25 rfl ?_
    refine stu 11 26 rfl ?_
    refine stu 12 27 rfl ?_
    refine stu 13 28 rfl ?_
    refine stu 14 29 rfl ?_
    refine stu 15 30 rfl ?_
    refine stu 16 31 rfl ?_
    refine stu 17 32 rfl ?_
    refine stu 18 33 rfl ?_
    refine stu 19 34 rfl ?_
    refine stk 20 35 rfl ?_
    refine wpAnyH_done (by kernel_rfl) ?_ _
    go_wp2_with fail
    go_ret
    exact⟨by rw[HR.out]<;>rfl,hHeld.out.b⟩
  ·obtain rfl:k=n:=by omega
   have HR:Hid (r=true):=zH (HYes.out HGo.out)
   go_wp2_with fail
   go_ret
   exact⟨by rw[HR.out]<;>rfl,HK.out.b⟩
end
section
open Go.RowKit
theorem vchk_any(v:Val.V)(w:World)(hf:vF v):
  Calls Tryz.prog 208 #[vv v] w (IsE (Que.vchk v) w):=by
 have HC:=zH (fun W=>check_any v W hf)
 clear hf
 unfold Que.vchk
 obtain⟨k,n,f,s⟩:=v
 unfold vv IsE at *
 simp only at HC ⊢
 generalize Val.chk ⟨k,n,f,s⟩=z at *
 have HK:=kn1 w 26 (vC k n f s)
 unfold vC at HK
 by_cases hk:k=0
 ·subst hk
  rw[if_pos rfl]
  go_enter Tryz.func208,Tryz.ntmps208
  go_wp2_with fail
  go_ret
  exact⟨rfl,HK.out.b⟩
 ·rw[if_neg hk]
  have hk2:(k==0)=false:=by simpa using hk
  go_enter Tryz.func208,Tryz.ntmps208
  go_wp2_with (first|refine wpList_of_exec (by rfl) (kexec_vv HK 0 _ rfl rfl rfl) ?_)
  refine(HC.out _).mono ?_;rintro e w1 ⟨rfl,b1⟩
  replace HK:=hkC HK b1
  go_wp2_with fail
  go_ret
  exact⟨rfl,HK.out.b⟩
theorem qright_any(N:Int)(A:Option Addr)(c n:Nat)(l:List Val.V)(w:World)(hs:Sls vaLay vF w A n c l):
  Calls Tryz.prog 143 #[.int .i64 N,.slice A n c] w (IsB (decide (Que.Right N l)) w):=by
 have HK:=zH (Kn.start w)
 by_cases h1:N<1
 ·have hd:decide (Que.Right N l)=false:=decide_eq_false fun h=>by have:=h.lo;omega
  rw[hd]
  clear hs hd
  go_enter Tryz.func143,Tryz.ntmps143
  go_wp2_with fail
  go_ret
  exact⟨rfl,HK.out.b⟩
 by_cases h2:8<N
 ·have hd:decide (Que.Right N l)=false:=decide_eq_false fun h=>by have:=h.hi;omega
  rw[hd]
  clear hs hd
  go_enter Tryz.func143,Tryz.ntmps143
  go_wp2_with fail
  go_ret
  exact⟨rfl,HK.out.b⟩
 by_cases h3:N<(n:Int)
 ·have hd:decide (Que.Right N l)=false:=decide_eq_false fun h=>by have:=h.len;rw[hs.len] at this;omega
  rw[hd]
  clear hs hd
  go_enter Tryz.func143,Tryz.ntmps143
  go_wp2_with fail
  go_ret
  exact⟨rfl,HK.out.b⟩
 obtain⟨hno,hyes⟩:=Que.right_told (n:=N) (l:=l) hs.len (by omega) (by omega) (by omega)
 have HNo:=zH hno
 have HYes:=zH hyes
 have HS:=zH hs
 have hn9:n<9:=by omega
 clear hs hno hyes
 generalize decide (Que.Right N l)=r at *
 go_enter Tryz.func143,Tryz.ntmps143
 go_wp2_with fail
 go_loopw [21] (fun vi wr=>∃k:Nat,k≤n∧vi=.int .i64 k∧Hid (∀(i:Nat) v,i<k→l[i]?=some v→Que.vchk v=0)∧Hid (Kn w.heap.size w wr [] [])) (fun vi _=>n-(intOf vi).toNat)
 case atStart=>exact⟨0,Nat.zero_le _,rfl,zH (fun i v hi=>by omega),HK⟩
 case round=>
  clear HK
  obtain⟨k,hk,rfl,HGo,HK⟩:=hrel
  have hk1:(0:Int)≤(k:Int):=by omega
  by_cases hlt:k<n
  ·have hk2:(k:Int)<(n:Int):=by omega
   have hk3:k<9223372036854775807:=by omega
   obtain⟨x,hx,hf⟩:=HS.out.get hlt
   obtain⟨b,o,rfl,hat⟩:=HS.out.at (Nat.lt_of_le_of_lt (Nat.zero_le _) hlt)
   have HX:=zH (fun W hW=>hat W hW k x hx)
   have HV:=zH (fun W=>vchk_any x W hf)
   have HN:=zH (HNo.out k x hx)
   have HGk:Hid (Que.vchk x=0→∀(i:Nat) v,i<k+1→l[i]?=some v→Que.vchk v=0):=zH fun h i v hi hv=>by
    by_cases hik:i=k
    ·subst hik;rw[hx] at hv;injection hv with hv;subst hv;exact h
    ·exact HGo.out i v (by omega) hv
   clear hat hx hf
   obtain⟨vk,vn,vf,vs⟩:=x
   unfold vv IsE at HV
   simp only at HV
   generalize Que.vchk ⟨vk,vn,vf,vs⟩=z at *
   go_wp2_with (first|refine wpList_of_exec (by rfl) (exec_lva (off:=o+k*4) _ (by rfl) (by rfl) (HX.out _ HK.out.b)) ?_|(refine wpList_akv HK rfl rfl ?_;intro _ g2 HK';simp only[lcA,lnA] at HK';replace HK:=HK';clear HK')|(refine wpList_sv (f2:=vf) HK 0 rfl _ _ rfl rfl rfl rfl ?_;intro _ HK';simp only[List.set] at HK';replace HK:=HK';clear HK')|refine wpList_of_exec (by rfl) (kexec_vv HK 0 _ (by rfl) (by rfl) (by rfl)) ?_)
   refine(HV.out _).mono ?_;rintro e w1 ⟨rfl,b1⟩
   replace HK:=hkC HK b1;clear b1
   by_cases hz:z=0
   ·subst hz
    replace HGk:=zH (HGk.out rfl)
    go_wp2_with (first|refine wpList_of_exec (by rfl) (exec_add1 (j:=k) _ (by rfl) (by rfl) hk3) ?_)
    exact⟨⟨k+1,hlt,rfl,HGk,zH (HK.out.takeL 0)⟩,by simp[intOf];omega⟩
   ·have hz2:(z != 0)=true:=by simpa using hz
    have HR:=zH (HN.out hz)
    go_wp2_with fail
    go_ret
    exact⟨by rw[HR.out]<;>rfl,HK.out.b⟩
  ·obtain rfl:k=n:=by omega
   have HR:Hid (r=true):=zH (HYes.out HGo.out)
   go_wp2_with fail
   go_ret
   exact⟨by rw[HR.out]<;>rfl,HK.out.b⟩
end
section
open Go.RowKit
theorem cmr_any(x:Rf)(w:World):Calls Tryz.prog 60 #[.agg #[.int .i64 x.c,.int .i64 x.e,.int .i64 x.r]] w (IsB (decide (Lck.ok x)) w):=by
 have HE:Hid (∀q:Bool,(q=true↔(0≤x.c∧x.c<5∧1≤x.e∧0≤x.r))→q=decide (Lck.ok x)):=zH fun q hq=>by
  rw[Bool.eq_iff_iff,hq,decide_eq_true_eq]
  exact Iff.rfl
 generalize decide (Lck.ok x)=r at *
 obtain⟨c,ep,rq⟩:=x
 simp only at HE ⊢
 have HK:=kn1 w 35 #[.int .i64 c,.int .i64 ep,.int .i64 rq]
 go_enter Tryz.func60,Tryz.ntmps60
 go_wp2_with fail
 all_goals
  go_ret
  refine⟨congrArg (fun b=>Ending.returned (.bool b)) (HE.out _ ?_),HK.out.b⟩
  clear HE HK
  simp_all<;>omega
theorem rmr_any(x:Rf)(w:World):Calls Tryz.prog 69 #[.agg #[.int .i64 x.c,.int .i64 x.e,.int .i64 x.r]] w (IsB (decide (Lck.ok x)) w):=by
 have HE:Hid (∀q:Bool,(q=true↔(0≤x.c∧x.c<5∧1≤x.e∧0≤x.r))→q=decide (Lck.ok x)):=zH fun q hq=>by
  rw[Bool.eq_iff_iff,hq,decide_eq_true_eq]
  exact Iff.rfl
 generalize decide (Lck.ok x)=r at *
 obtain⟨c,ep,rq⟩:=x
 simp only at HE ⊢
 have HK:=kn1 w 35 #[.int .i64 c,.int .i64 ep,.int .i64 rq]
 go_enter Tryz.func69,Tryz.ntmps69
 go_wp2_with fail
 all_goals
  go_ret
  refine⟨congrArg (fun b=>Ending.returned (.bool b)) (HE.out _ ?_),HK.out.b⟩
  clear HE HK
  simp_all<;>omega
end
section
open Go.RowKit
theorem asked_any(A:Option Addr)(c n:Nat)(l:List Rf)(q:Int)(w:World)(hs:Sls rfLay rF w A n c l):
  Calls Tryz.prog 209 #[.slice A n c,.int .i64 q] w (IsB (Lck.asked l q) w):=by
 obtain⟨hyes,hno⟩:=Lck.asked_told hs.len q
 have HYes:=zH hyes
 have HNo:=zH hno
 have HS:=zH hs
 have HK:=zH (Kn.start w)
 have hn63:n<9223372036854775807:=by
  have h:n*24≤140737488355328:=hs.big
  omega
 clear hs hyes hno
 generalize Lck.asked l q=r at *
 go_enter Tryz.func209,Tryz.ntmps209
 go_wp2_with fail
 go_loopw [9] (fun vi wr=>∃k:Nat,k≤n∧vi=.int .i64 k∧Hid (∀(i:Nat) x,i<k→l[i]?=some x→¬x.c=q)∧Hid (Kn w.heap.size w wr [] [])) (fun vi _=>n-(intOf vi).toNat)
 case atStart=>exact⟨0,Nat.zero_le _,rfl,zH (fun i v hi=>by omega),HK⟩
 case round=>
  clear HK
  obtain⟨k,hk,rfl,HGo,HK⟩:=hrel
  have hk1:(0:Int)≤(k:Int):=by omega
  by_cases hlt:k<n
  ·have hk2:(k:Int)<(n:Int):=by omega
   have hk3:k<9223372036854775807:=by omega
   obtain⟨x,hx,_⟩:=HS.out.get hlt
   obtain⟨b,o,rfl,hat⟩:=HS.out.at (Nat.lt_of_le_of_lt (Nat.zero_le _) hlt)
   have HX:=zH (fun W hW=>hat W hW k x hx)
   have HY:=zH (HYes.out k x hx)
   have HGk:Hid (¬x.c=q→∀(i:Nat) v,i<k+1→l[i]?=some v→¬v.c=q):=zH fun h i v hi hv=>by
    by_cases hik:i=k
    ·subst hik;rw[hx] at hv;injection hv with hv;subst hv;exact h
    ·exact HGo.out i v (by omega) hv
   clear hat hx
   by_cases he:x.c=q
   ·have HR:=zH (HY.out he)
    have he2:(x.c==q)=true:=by simpa using he
    clear he HGk HY
    go_wp2_with (first|refine zX (exec_lr (x:=x) (off:=o+k*3) _ (by rfl) (by rfl) (HX.out _ HK.out.b)) ?_|(refine wpList_akr HK rfl rfl ?_;intro _ g2 HK';simp only[lcA,lnA] at HK';replace HK:=HK';clear HK')|(refine wpList_sr HK 0 rfl _ _ rfl rfl rfl rfl ?_;intro _ HK';simp only[List.set] at HK';replace HK:=HK';clear HK')|refine zX (kexec_lc0 HK 0 _ (by rfl) (by rfl) (by rfl)) ?_)
    go_ret
    exact⟨by rw[HR.out]<;>rfl,HK.out.b⟩
   ·have he2:(x.c==q)=false:=by simpa using he
    replace HGk:=zH (HGk.out he)
    clear he HY
    go_wp2_with (first|refine zX (exec_lr (x:=x) (off:=o+k*3) _ (by rfl) (by rfl) (HX.out _ HK.out.b)) ?_|(refine wpList_akr HK rfl rfl ?_;intro _ g2 HK';simp only[lcA,lnA] at HK';replace HK:=HK';clear HK')|(refine wpList_sr HK 0 rfl _ _ rfl rfl rfl rfl ?_;intro _ HK';simp only[List.set] at HK';replace HK:=HK';clear HK')|refine zX (kexec_lc0 HK 0 _ (by rfl) (by rfl) (by rfl)) ?_|refine zX (exec_add1 (j:=k) _ (by rfl) (by rfl) hk3) ?_)
    exact⟨⟨k+1,hlt,rfl,HGk,zH (HK.out.takeL 0)⟩,by simp[intOf];omega⟩
  ·obtain rfl:k=n:=by omega
   have HR:=zH (HNo.out HGo.out)
   go_wp2_with fail
   go_ret
   exact⟨by rw[HR.out]<;>rfl,HK.out.b⟩
end
end Go.Proofs.YtieoeendnccafaaGreat
