/- What checkPair and cmp.Or of two errors return. No condition but those named. -/
import Derived.Test.YtieoeendnccafaaNTK
import Derived.Test.YtieoeendnccafaaNAI
import Derived.Test.YtieoeendnccafaaNAJ
import Derived.Test.YtieoeendnccafaaNAB
import Derived.Test.YtieoeendnccafaaNAG
import Derived.Test.YtieoeendnccafaaNAA
import Derived.Lib.AppendZeros
import Derived.Test.YtieoeendnccafaaRows
import Derived.KernelRfl
import Derived.Deep.RegionWith
import Derived.Deep.RegionHeld3
import Derived.Deep.Draws
import Derived.Lib.Hide
import Derived.Deep.CutBlock
import Derived.Deep.DeepCutAuto
set_option linter.unusedSimpArgs false
set_option linter.unusedVariables false
set_option maxRecDepth 100000
set_option maxHeartbeats 25600000
namespace Go.Proofs.Ytieoeendnccafaa
section
open Go.RowKit
def prF(p:Dct.Pr):Prop:=p.val.f<18446744073709551616
theorem Sl.sls{w:World}{A:Option Addr}{n c:Nat}{l:List Dct.Pr}(h:Sl w A n c l):Sls prLay prF w A n c l:=
 ⟨h.len,h.cap,h.rd,h.nl,⟨h.fs,by
  have:=h.big
  rw[h.len]
  show n*56≤_
  omega⟩⟩
theorem Sls.sl{w:World}{A:Option Addr}{n c:Nat}{l:List Dct.Pr}(h:Sls prLay prF w A n c l):Sl w A n c l:=
 ⟨h.len,h.cap,h.rd,h.nl,h.fit.fs,by
  have h2:n*56≤140737488355328:=h.big
  omega⟩
end
section
open Go.RowKit
def rows3(x:Oh):List RowE:=[row prLay (.slice x.pA x.pn x.pc) x.v.prs,row vaLay (.slice x.vA x.vn x.vc) x.v.vals,row rfLay (.slice x.rA x.rn x.rc) x.v.refs]
section
variable {b0:Nat}{w0 w:World}{L:List (Nat×TypeId×Array Value)}{R:List RowE}
theorem Kn.init{y:RowE}(h:Kn b0 w0 w L (R++[y])):Kn b0 w0 w L R:=by
 have h2:=h.takeR R.length
 rw[List.take_left' rfl] at h2
 exact h2
theorem Kn.lastOwn{P:Program}{α:Type}{La:Lay P α}{v:Value}{l:List α}(h:Kn b0 w0 w L (R++[row La v l])):La.Own b0 w v l:=h.own R.length (by simp)
theorem Kn.join{w':World}{Rn:List RowE}(h:Kn b0 w0 w L R)(k:Kn w.heap.size w w' [] Rn):Kn b0 w0 w' L (R++Rn):=by
 have hc:=h.call k.b
 have key:∀(i:Nat) x,(R++Rn)[i]?=some x→(i<R.length∧R[i]?=some x)∨(R.length≤i∧Rn[i-R.length]?=some x):=fun i x hx=>by
  rcases Nat.lt_or_ge i R.length with hi|hi
  ·rw[List.getElem?_append_left hi] at hx;exact .inl ⟨hi,hx⟩
  ·rw[List.getElem?_append_right hi] at hx;exact .inr ⟨hi,hx⟩
 refine⟨hc.b,hc.m,hc.l,fun i y hy=>?_,hc.ll,fun i j x y hx hy=>?_,fun i j x y hx hy hij=>?_⟩
 ·rcases key i y hy with ⟨_,hy⟩|⟨_,hy⟩
  ·exact hc.r i y hy
  ·exact World.ownsRow.mono (k.r _ y hy) h.m
 ·rcases key j y hy with ⟨_,hy⟩|⟨_,hy⟩
  ·exact hc.lr i j x y hx hy
  ·intro e
   have h1:=(owns_lt (k.r _ y hy) e).1
   have h2:=(h.l i x hx).2.lt
   omega
 ·rcases key i x hx with ⟨h1,hx⟩|⟨h1,hx⟩<;>rcases key j y hy with ⟨h2,hy⟩|⟨h2,hy⟩
  ·exact hc.rr i j x y hx hy hij
  ·intro g hg e
   have h3:=(owns_lt (h.r i x hx) hg).2
   have h4:=(owns_lt (k.r _ y hy) e).1
   omega
  ·intro g hg e
   have h3:=(owns_lt (h.r j y hy) e).2
   have h4:=(owns_lt (k.r _ x hx) hg).1
   omega
  ·exact k.rr _ _ x y hx hy (by omega)
theorem Kn.mem{P:Program}{α:Type}{La:Lay P α}{v:Value}{l:List α}(h:Kn b0 w0 w L R)(hm:row La v l∈R):La.Own b0 w v l:=by
 obtain⟨i,hi⟩:=List.mem_iff_getElem?.1 hm
 exact h.own i hi
end
structure Fo(o:Sto.Ob):Prop where
 p:Fit o.prs
 v:Fits vaLay vF o.vals
 r:Fits rfLay rF o.refs
 m:Mt.Fit o.mt
 d:o.round≤9223372036854775807
theorem Kn.obs{b0:Nat}{w0 w:World}{L:List (Nat×TypeId×Array Value)}{R:List RowE}{A:Option Addr}{n c:Nat}{l:List Oh}(h:Kn b0 w0 w L R)(h1:row obLay (.slice A n c) l∈R)(h2:∀y∈l.flatMap rows3,y∈R)(hf:∀o∈vs l,Fo o)(hn:n*144≤140737488355328):Obs w A n c l:=by
 have ho:=h.mem h1
 have hl:=ho.reads.1
 refine⟨Sls.own ho ⟨fun x hx=>trivial,?_⟩,fun x hx=>?_⟩
 ·show l.length*144≤_
  rw[← hl];exact hn
 ·have hfo:=hf x.v (List.mem_map.2 ⟨x,hx,rfl⟩)
  have hm:∀y∈rows3 x,y∈R:=fun y hy=>h2 y (List.mem_flatMap.2 ⟨x,hx,hy⟩)
  have m0:row prLay (.slice x.pA x.pn x.pc) x.v.prs∈rows3 x:=List.mem_cons_self ..
  have m1:row vaLay (.slice x.vA x.vn x.vc) x.v.vals∈rows3 x:=List.mem_cons_of_mem _ (List.mem_cons_self ..)
  have m2:row rfLay (.slice x.rA x.rn x.rc) x.v.refs∈rows3 x:=List.mem_cons_of_mem _ (List.mem_cons_of_mem _ (List.mem_cons_self ..))
  exact⟨Sl.own (h.mem (hm _ m0)) hfo.p,Sls.own (h.mem (hm _ m1)) hfo.v,Sls.own (h.mem (hm _ m2)) hfo.r,hfo.m,hfo.d⟩
end
section
open Go.RowKit
theorem cells_se:Try.prog.cellsOf 30=9:=by kernel_rfl
theorem run_seq(s:Ses.S)(w:World):(Op.equalIn 9999 30 (.agg (seA s)) (.agg (seA s))).run Try.prog w=.ok true w:=by
 unfold seA
 go_simp
theorem part_0(t:Ses.T)(w:World):(part 30 (tbA t) (0*9)).run Try.prog w=.ok (.agg (seA t.s0)) w:=by kernel_rfl
theorem part_1(t:Ses.T)(w:World):(part 30 (tbA t) (1*9)).run Try.prog w=.ok (.agg (seA t.s1)) w:=by kernel_rfl
theorem part_2(t:Ses.T)(w:World):(part 30 (tbA t) (2*9)).run Try.prog w=.ok (.agg (seA t.s2)) w:=by kernel_rfl
theorem part_3(t:Ses.T)(w:World):(part 30 (tbA t) (3*9)).run Try.prog w=.ok (.agg (seA t.s3)) w:=by kernel_rfl
theorem part_4(t:Ses.T)(w:World):(part 30 (tbA t) (4*9)).run Try.prog w=.ok (.agg (seA t.s4)) w:=by kernel_rfl
theorem run_teq(t:Ses.T)(w:World):(Op.equalIn 10000 31 (.agg (tbA t)) (.agg (tbA t))).run Try.prog w=.ok true w:=by
 obtain⟨i,hi⟩:∃i,Try.prog.info? 30=some i:=Option.isSome_iff_exists.1 (by kernel_rfl)
 rw[run_equalIn_array w 9999 _ _ Try.underlying31 hi,cells_se]
 simp only[List.range,List.range.loop,Op.eqItems,Sem.run_bind,part_0,part_1,part_2,part_3,part_4,run_seq,Result.andThen_ok,Bool.not_true,Bool.false_eq_true,if_false,Sem.run_pure]
theorem exec_tbE{w:World}{o:Oper}{a:Act}{t:Ses.T}(x y:Operand)(ho:o.op=.binOp .eql 31 x y 31)(hx:a.eval x=.agg (tbA t))(hy:a.eval y=.agg (tbA t)):
  (execOp a.eval o).run Try.prog w=.ok (.value (.bool true)) w:=by
 have h:=run_teq t
 unfold execOp
 simp only[ho,hx,hy]
 go_simp
end
section
namespace Ap
open Sto Ses
def own:List Ot→Rf→Option Rp
 | [],_=>none
 | y::m,r=>if y.r=r then some y.p else own m r
def small(k:Int):Cmd.C:=⟨k,⟨#[]⟩,⟨#[]⟩,⟨0,0,0,⟨#[]⟩⟩,⟨0,0,0,⟨#[]⟩⟩,0,0⟩
end Ap
end
section
namespace Ap
open Sto Ses
def Cur(t:T)(y:Ot):Prop:=(0≤y.r.c∧y.r.c<5)∧y.r.e=(t.get y.r.c).ep∧((y.r.r=(t.get y.r.c).rq∧(t.get y.r.c).dn=true∧y.p=(t.get y.r.c).p)∨((t.get y.r.c).rq<y.r.r∧(t.get y.r.c).live=false∧y.p=err 14))
def Old(t:T)(y:Ot):Prop:=(0≤y.r.c∧y.r.c<5)∧(y.r.e<(t.get y.r.c).ep∨(y.r.e=(t.get y.r.c).ep∧y.r.r<(t.get y.r.c).rq))
structure Good(t:T)(O:List Ot):Prop where
 told:∀y∈O,Old t y∨Cur t y
 one:∀y∈O,∀z∈O,y.r=z.r→y.p=z.p
section
variable {t:T}{O:List Ot}{r:Rf}{c:Int}
theorem Good.nil(t:T):Good t []:=⟨fun y hy=>(by cases hy),fun y hy=>(by cases hy)⟩
theorem Good.sub{O':List Ot}(g:Good t O)(h:∀y∈O',y∈O):Good t O':=⟨fun y hy=>g.told y (h y hy),fun y hy z hz=>g.one y (h y hy) z (h z hz)⟩
theorem cur_same{y z:Ot}(hy:Old t y∨Cur t y)(hz:Cur t z)(e:y.r=z.r):y.p=z.p:=by
 obtain⟨_,z1,z2⟩:=hz
 rcases hy with ⟨_,hy⟩|⟨_,y1,y2⟩
 ·rw[e] at hy
  rcases hy with hy|hy
  ·omega
  ·rcases z2 with ⟨z2,_⟩|⟨z2,_⟩<;>omega
 ·rw[e] at y2
  rcases y2 with ⟨a,b,d⟩|⟨a,b,d⟩<;>rcases z2 with ⟨a',b',d'⟩|⟨a',b',d'⟩
  ·rw[d,d']
  ·omega
  ·omega
  ·rw[d,d']
theorem Good.add(g:Good t O){z:Ot}(h:Cur t z):Good t (O++[z]):=by
 refine⟨fun y hy=>?_,fun y hy x hx e=>?_⟩
 ·rcases List.mem_append.1 hy with hy|hy
  ·exact g.told y hy
  ·rw[List.mem_singleton.1 hy];exact .inr h
 ·rcases List.mem_append.1 hy with hy|hy<;>rcases List.mem_append.1 hx with hx|hx
  ·exact g.one y hy x hx e
  ·rw[List.mem_singleton.1 hx] at e ⊢
   exact cur_same (g.told y hy) h e
  ·rw[List.mem_singleton.1 hy] at e ⊢
   exact(cur_same (g.told x hx) h e.symm).symm
  ·rw[List.mem_singleton.1 hy,List.mem_singleton.1 hx]
theorem Good.set(g:Good t O)(hc:0≤c∧c<5){s:S}(h:∀y∈O,y.r.c=c→Old t y∨Cur t y→Old (t.set c s) y∨Cur (t.set c s) y):Good (t.set c s) O:=by
 refine⟨fun y hy=>?_,g.one⟩
 by_cases e:y.r.c=c
 ·exact h y hy e (g.told y hy)
 ·rcases g.told y hy with k|k
  ·exact .inl ⟨k.1,by rw[get_ne hc k.1 e];exact k.2⟩
  ·exact .inr ⟨k.1,by rw[get_ne hc k.1 e];exact k.2⟩
theorem Good.end_(g:Good t O){x:Rp}(hl:Ses.look t r=3)(hx:rep x=true):Good (endT t r x) (O++[⟨r,x⟩]):=by
 obtain⟨hc,hd,g3,g4,ho⟩:=waits_hd hl
 have e:endT t r x=t.set r.c { t.get r.c with dn:=true,p:=x }:=if_pos ⟨hl,hx⟩
 have g2:Good (endT t r x) O:=by
  rw[e]
  refine g.set hc fun y hy e2 k=>?_
  rcases k with ⟨a,k⟩|⟨a,k1,k2⟩
  ·refine .inl ⟨a,?_⟩
   rw[e2] at k ⊢
   rw[get_set hc]
   exact k
  ·rw[e2] at k1 k2
   rcases k2 with ⟨_,k2,_⟩|⟨_,k3,_⟩
   ·rw[g3] at k2;cases k2
   ·rw[hd.1] at k3;cases k3
 refine g2.add ⟨hc,?_,.inl ⟨?_,?_,?_⟩⟩<;>(show _=_;rw[e,get_set hc])
 ·exact hd.2.1.symm
 ·exact g4
theorem Good.ends{W P H:List Rf}:∀{Y:List Ot} {t:T} {O:List Ot},J t W (Y.map (·.r)++P) H→Good t O→(∀y∈Y,rep y.p=true)→Good (Ap.ends t (prs Y)) (O++Y)
 | [],t,O,_,g,_=>by rw[List.append_nil];exact g
 | y::m,t,O,j,g,h=>by
  have hl:Ses.look t y.r=3:=j.w y.r (List.mem_append.2 (.inr (List.mem_cons_self ..)))
  have hy:=h y (List.mem_cons_self ..)
  have:=Good.ends (Y:=m) (j.end_ hy) (g.end_ hl hy) fun z hz=>h z (List.mem_cons_of_mem _ hz)
  rw[List.append_assoc] at this
  exact this
end
def all(s:St):List Cmd.E→St×List Ot
 | []=>(s,[])
 | e::m=>((all (apS s e) m).1,apO s e++(all (apS s e) m).2)
def s0:St:=⟨0,[],t0⟩
theorem ok_0:Ok s0:=by decide
end Ap
end
section
open Go.RowKit
def fl(b0 b1 b2 b3 b4 b5:Bool):Array Value:=#[.bool b0,.bool b1,.bool b2,.bool b3,.bool b4,.bool b5]
theorem info_fl:(Try.prog.info? 122).map (·.size)=some 6:=by kernel_rfl
def IsF(b0 b1 b2 b3 b4 b5:Bool)(w:World)(e:Ending)(w':World):Prop:=e=.returned (.agg (fl b0 b1 b2 b3 b4 b5))∧Below w.heap.size w w'
theorem ret_fl{f:Func}{R:Ending→World→Prop}{a:Act}{w:World}{B:Nat}{b0 b1 b2 b3 b4 b5:Bool}{q:Tmp}(hf:f.results=#[.cell q 122])(h2:a.tmps[q]?=some (.pointer (some ⟨B,0,none⟩)))(hd:a.defers=[])(hb:Blk w B 122 (fl b0 b1 b2 b3 b4 b5))
  (hR:R (.returned (.agg (fl b0 b1 b2 b3 b4 b5))) w):bodyPost Try.prog f R Exit.ret a w:=
 bodyPost_ret (results_cell_row hf a.tmps w B _ _ (0,0) _ (by simp[h2]) hb Try.underlying122 rfl info_fl) hd hR
end
section
open Go.RowKit
namespace Cmd
def nz:List Int→Int
 | []=>0
 | x::r=>if x≠0 then x else nz r
end Cmd
def IsN(b0 b1 b2 b3 b4 b5 ok:Bool)(w:World)(e:Ending)(w':World):Prop:=e=.returned (.tuple #[.agg (fl b0 b1 b2 b3 b4 b5),.bool ok])∧Below w.heap.size w w'
theorem ret_fln{f:Func}{R:Ending→World→Prop}{a:Act}{w:World}{B:Nat}{b0 b1 b2 b3 b4 b5:Bool}{u:Value}{k q:Tmp}(hf:f.results=#[.cell k 122,.tmp q])(h2:a.tmps[k]?=some (.pointer (some ⟨B,0,none⟩)))(h4:a.tmps[q]?=some u)(hd:a.defers=[])
  (hb:Blk w B 122 (fl b0 b1 b2 b3 b4 b5)) (hR:R (.returned (.tuple #[.agg (fl b0 b1 b2 b3 b4 b5),u])) w):bodyPost Try.prog f R Exit.ret a w:=by
 refine bodyPost_ret (v:=.tuple #[.agg (fl b0 b1 b2 b3 b4 b5),u]) ?_ hd hR
 have h:=run_loadVar_row (P:=Try.prog) w B _ _ _ (0,0) _ hb Try.underlying122 rfl info_fl
 simp[results,hf,asAddr,Sem.run_bind,h2,h4,h]
end
section
open Go.RowKit
theorem emp_l{s:ByteArray}:s.size=0↔s.toList=[]:=by
 constructor
 ·intro h
  rw[Cmd.size_emp h,ByteArray.toList_eq];rfl
 ·intro h
  rw[ByteArray.toList_eq] at h
  have:=congrArg List.length h
  simpa using this
end
section
open Go.RowKit
theorem snamed_any(s:ByteArray)(w:World):Calls Try.prog 41 #[.string s] w (IsB (decide (Sto.named s)) w):=by
 unfold IsB
 by_cases h:s.size=0
 ·have h1:s.toList=[]:=emp_l.1 h
  have hd:decide (Sto.named s)=false:=decide_eq_false fun g=>g.1 h
  rw[hd]
  clear hd h
  go_enter Try.func41,Try.ntmps41
  go_wp2_with fail
  go_ret
  exact⟨rfl,Below.refl _ _⟩
 ·have h1:¬s.toList=[]:=fun g=>h (emp_l.2 g)
  by_cases h2:s.size≤16
  ·have hd:decide (Sto.named s)=true:=decide_eq_true ⟨h,h2⟩
   rw[hd]
   clear hd
   go_enter Try.func41,Try.ntmps41
   go_wp2_with fail
   go_ret
   exact⟨by simp[h1];omega,Below.refl _ _⟩
  ·have hd:decide (Sto.named s)=false:=decide_eq_false fun g=>h2 g.2
   rw[hd]
   clear hd
   go_enter Try.func41,Try.ntmps41
   go_wp2_with fail
   go_ret
   exact⟨by simp[h1];omega,Below.refl _ _⟩
end
section
open Go.RowKit
section
variable {b0:Nat}{w0 w:World}{L:List (Nat×TypeId×Array Value)}{R:List RowE}{ops:Array Oper}{rest:List Oper}{o:Oper}{a:Act}{Q:Exit→Act→World→Prop}
theorem wpList_akF(HK:Hid (Kn b0 w0 w L R))(hgd:o.guard=none)(ho:o.op=.alloc 122)
  (h:∀w' g,Hid (Kn b0 w0 w' (L++[(g,122,fl false false false false false false)]) R)→wpList Try.prog ops Q rest (a.put o.dst (.pointer (some ⟨g,0,none⟩))) w'):wpList Try.prog ops Q (o::rest) a w:=
 wpList_plain hgd fun K hK=>by
  have h4:=h _ w.heap.size (zH (HK.out.alloc _ _))
  unfold Oper.wp execOp
  simp only[ho]
  unfold fl at h4
  go_simp
  exact hK _ _ h4
theorem wpList_sfL(HK:Hid (Kn b0 w0 w L R))(i:Nat)(hgd:o.guard=none)(p q:Operand)(ho:o.op=.store 122 p q){g:Nat}{x0 x1 x2 x3 x4 x5 y0 y1 y2 y3 y4 y5:Bool}(hL:L[i]?=some (g,122,fl x0 x1 x2 x3 x4 x5))(hx:a.eval p=.pointer (some ⟨g,0,none⟩))(hy:a.eval q=.agg (fl y0 y1 y2 y3 y4 y5))
  (h:∀w',Hid (Kn b0 w0 w' (L.set i (g,122,fl y0 y1 y2 y3 y4 y5)) R)→Hid (w'.heap.size=w.heap.size)→wpList Try.prog ops Q rest (a.put o.dst undef) w'):wpList Try.prog ops Q (o::rest) a w:=
 wpList_ss HK i hgd _ p q ho hL hx hy (by show 6≤6;decide) info_fl (by simp[fl,Value.oneCell']) fun w' h1 h2=>h w' (by
  have e:putCells (fl x0 x1 x2 x3 x4 x5) 0 (fl y0 y1 y2 y3 y4 y5).toList=fl y0 y1 y2 y3 y4 y5:=by
   rw[putCells_all (vs:=(fl y0 y1 y2 y3 y4 y5).toList) (cs:=fl x0 x1 x2 x3 x4 x5) rfl,Array.toArray_toList]
  rw[e] at h1
  exact h1) h2
end
def at6(b0 b1 b2 b3 b4 b5:Bool):Nat→Bool
 | 0=>b0
 | 1=>b1
 | 2=>b2
 | 3=>b3
 | 4=>b4
 | _=>b5
theorem at6_cell{b0 b1 b2 b3 b4 b5:Bool}{k:Nat}(h:k<6):(fl b0 b1 b2 b3 b4 b5)[k]?=some (.bool (at6 b0 b1 b2 b3 b4 b5 k)):=by
 match k,h with
 | 0,_|1,_|2,_|3,_|4,_|5,_=>rfl
end
section
open Go.RowKit
theorem isH{k:Int}{b0 b1 b2 b3 b4 b5 ok:Bool}{w:World}{e:Ending}{w':World}(h:IsN b0 b1 b2 b3 b4 b5 ok w e w')(e0:Sto.h0 k=b0)(e1:Sto.h1 k=b1)(e2:Sto.h2 k=b2)(e3:Sto.h3 k=b3)(e4:Sto.h4 k=b4)(e5:Sto.h5 k=b5)(e6:Sto.is k=ok):
  IsN (Sto.h0 k) (Sto.h1 k) (Sto.h2 k) (Sto.h3 k) (Sto.h4 k) (Sto.h5 k) (Sto.is k) w e w':=by
 rw[e0,e1,e2,e3,e4,e5,e6];exact h
theorem having_any(k:Int)(w:World):Calls Try.prog 71 #[.int .i64 k] w (IsN (Sto.h0 k) (Sto.h1 k) (Sto.h2 k) (Sto.h3 k) (Sto.h4 k) (Sto.h5 k) (Sto.is k) w):=by
 have hk:k=1∨k=2∨k=3∨k=4∨k=5∨¬(1≤k∧k≤5):=by omega
 rcases hk with rfl|rfl|rfl|rfl|rfl|h
 case inr.inr.inr.inr.inr=>
  have n1:¬k=1:=by omega
  have n2:¬k=2:=by omega
  have n3:¬k=3:=by omega
  have n4:¬k=4:=by omega
  have n5:¬k=5:=by omega
  refine Calls.mono (R:=IsN false false false false false false false w) ?_ fun e w' hh=>isH hh (by unfold Sto.h0;simp[n2,n4]) (by unfold Sto.h1;simp[n1]) (by unfold Sto.h2;simp[n2]) (by unfold Sto.h3;simp[n3,n4]) (by unfold Sto.h4;simp[n4]) (by unfold Sto.h5;simp[n5]) (by unfold Sto.is;simp;omega)
  clear h
  go_enter Try.func71,Try.ntmps71
  go_wp2_with fail
  exact ret_fln Try.results71 rfl rfl rfl (Blk.new w _ _) ⟨rfl,(Below.refl _ w).alloc (Nat.le_refl _) _⟩
 all_goals
  go_enter Try.func71,Try.ntmps71
  go_wp2_with fail
  exact ret_fln Try.results71 rfl rfl rfl (Blk.new w _ _) ⟨rfl,(Below.refl _ w).alloc (Nat.le_refl _) _⟩
theorem exec_mne{w:World}{o:Oper}{a:Act}{x y:Mtr}{b:Bool}(p q:Operand)(ho:o.op=.binOp .neq 67 p q 67)(hx:a.eval p=.agg #[.int .i64 x.n,.int .u64 (x.s:Int),.int .u64 (x.l:Int),.int .u64 (x.m:Int)])(hy:a.eval q=.agg #[.int .i64 y.n,.int .u64 (y.s:Int),.int .u64 (y.l:Int),.int .u64 (y.m:Int)])(hb:(!decide (x=y))=b):
  (execOp a.eval o).run Try.prog w=.ok (.value (.bool b)) w:=by
 rw[meq_all] at hb
 subst hb
 unfold execOp
 simp only[ho,hx,hy]
 go_simp
 by_cases h1:x.n=y.n<;>by_cases h2:(x.s:Int)=(y.s:Int)<;>by_cases h3:(x.l:Int)=(y.l:Int)<;>by_cases h4:(x.m:Int)=(y.m:Int)<;>simp[h1,h2,h3,h4]
theorem sfilled_any(x:Oh)(w:World)(hx:In w x):Calls Try.prog 72 #[.agg (obA x)] w (IsF (Sto.f0 x.v) (Sto.f1 x.v) (Sto.f2 x.v) (Sto.f3 x.v) (Sto.f4 x.v) (Sto.f5 x.v) w):=by
 have hp:=hx.p.len
 have hv:=hx.v.len
 have hr:=hx.r.len
 unfold IsF Sto.f0 Sto.f1 Sto.f2 Sto.f3 Sto.f4 Sto.f5
 rw[hp,hv,hr]
 clear hp hv hr hx
 have HK:=kn2 w 69 (obA x) 122 (fl false false false false false false)
 go_enter Try.func72,Try.ntmps72
 go_wp2_with fail
 replace HK:=zH HK.out.drew
 refine wp_region_held_drew (S:=(fun W=>Hid (Kn w.heap.size w W [(w.heap.size,69,obA x)] []))) (by kernel_rfl) ?_ (fun hHeld=>?_)
 ·(try dsimp only);exact zH (HK.out.takeL 1)
 refine wpAnyH_take (i:=0) (oi:=⟨some 3,_,_,_,_,_⟩) (v:=?_) rfl (by kernel_rfl) (by kernel_rfl) (by kernel_rfl) (fun _ _ _ h=>h) (Or.inl ⟨by rfl,?_⟩) (by assumption) ?_
 rotate_left
 ·(intro w hSw;(try dsimp only at hSw);go_simp;try with_reducible rfl)
 try simp only[Act.put,List.setIfInBounds_toArray,List.set_cons_zero,List.set_cons_succ]
 refine wpAnyH_take (i:=1) (oi:=⟨some 4,_,_,_,_,_⟩) (v:=?_) rfl (by kernel_rfl) (by kernel_rfl) (by kernel_rfl) (fun _ _ _ h=>h) (Or.inl ⟨by rfl,?_⟩) (by assumption) ?_
 rotate_left
 ·(intro w hSw;refine Eq.trans (kob_c hSw 0 _ (by rfl) (by rfl) (by rfl)) ?_;with_reducible rfl)
 try simp only[Act.put,List.setIfInBounds_toArray,List.set_cons_zero,List.set_cons_succ]
 refine wpAnyH_take (i:=2) (oi:=⟨some 5,_,_,_,_,_⟩) (v:=?_) rfl (by kernel_rfl) (by kernel_rfl) (by kernel_rfl) (fun _ _ _ h=>h) (Or.inl ⟨by rfl,?_⟩) (by assumption) ?_
 rotate_left
 ·(intro w hSw;(try dsimp only at hSw);go_simp;try with_reducible rfl)
 try simp only[Act.put,List.setIfInBounds_toArray,List.set_cons_zero,List.set_cons_succ]
 refine wpAnyH_take (i:=3) (oi:=⟨some 6,_,_,_,_,_⟩) (v:=?_) rfl (by kernel_rfl) (by kernel_rfl) (by kernel_rfl) (fun _ _ _ h=>h) (Or.inl ⟨by rfl,?_⟩) (by assumption) ?_
 rotate_left
 ·(intro w hSw;(try dsimp only at hSw);go_simp;try with_reducible rfl)
 try simp only[Act.put,List.setIfInBounds_toArray,List.set_cons_zero,List.set_cons_succ]
 refine wpAnyH_take (i:=4) (oi:=⟨some 7,_,_,_,_,_⟩) (v:=?_) rfl (by kernel_rfl) (by kernel_rfl) (by kernel_rfl) (fun _ _ _ h=>h) (Or.inl ⟨by rfl,?_⟩) (by assumption) ?_
 rotate_left
 ·(intro w hSw;refine Eq.trans (kob_p hSw 0 _ (by rfl) (by rfl) (by rfl)) ?_;with_reducible rfl)
 try simp only[Act.put,List.setIfInBounds_toArray,List.set_cons_zero,List.set_cons_succ]
 refine wpAnyH_take (i:=5) (oi:=⟨some 8,_,_,_,_,_⟩) (v:=?_) rfl (by kernel_rfl) (by kernel_rfl) (by kernel_rfl) (fun _ _ _ h=>h) (Or.inl ⟨by rfl,?_⟩) (by assumption) ?_
 rotate_left
 ·(intro w hSw;(try dsimp only at hSw);go_simp;try with_reducible rfl)
 try simp only[Act.put,List.setIfInBounds_toArray,List.set_cons_zero,List.set_cons_succ]
 refine wpAnyH_take (i:=6) (oi:=⟨some 9,_,_,_,_,_⟩) (v:=?_) rfl (by kernel_rfl) (by kernel_rfl) (by kernel_rfl) (fun _ _ _ h=>h) (Or.inl ⟨by rfl,?_⟩) (by assumption) ?_
 rotate_left
 ·(intro w hSw;(try dsimp only at hSw);go_simp;try with_reducible rfl)
 try simp only[Act.put,List.setIfInBounds_toArray,List.set_cons_zero,List.set_cons_succ]
 refine wpAnyH_take (i:=7) (oi:=⟨some 10,_,_,_,_,_⟩) (v:=?_) rfl (by kernel_rfl) (by kernel_rfl) (by kernel_rfl) (fun _ _ _ h=>h) (Or.inl ⟨by rfl,?_⟩) (by assumption) ?_
 rotate_left
 ·(intro w hSw;(try dsimp only at hSw);go_simp;try with_reducible rfl)
 try simp only[Act.put,List.setIfInBounds_toArray,List.set_cons_zero,List.set_cons_succ]
 refine wpAnyH_take (i:=8) (oi:=⟨some 11,_,_,_,_,_⟩) (v:=?_) rfl (by kernel_rfl) (by kernel_rfl) (by kernel_rfl) (fun _ _ _ h=>h) (Or.inl ⟨by rfl,?_⟩) (by assumption) ?_
 rotate_left
 ·(intro w hSw;refine Eq.trans (kob_v hSw 0 _ (by rfl) (by rfl) (by rfl)) ?_;with_reducible rfl)
 try simp only[Act.put,List.setIfInBounds_toArray,List.set_cons_zero,List.set_cons_succ]
 refine wpAnyH_take (i:=9) (oi:=⟨some 12,_,_,_,_,_⟩) (v:=?_) rfl (by kernel_rfl) (by kernel_rfl) (by kernel_rfl) (fun _ _ _ h=>h) (Or.inl ⟨by rfl,?_⟩) (by assumption) ?_
 rotate_left
 ·(intro w hSw;(try dsimp only at hSw);go_simp;try with_reducible rfl)
 try simp only[Act.put,List.setIfInBounds_toArray,List.set_cons_zero,List.set_cons_succ]
 refine wpAnyH_take (i:=10) (oi:=⟨some 13,_,_,_,_,_⟩) (v:=?_) rfl (by kernel_rfl) (by kernel_rfl) (by kernel_rfl) (fun _ _ _ h=>h) (Or.inl ⟨by rfl,?_⟩) (by assumption) ?_
 rotate_left
 ·(intro w hSw;(try dsimp only at hSw);go_simp;try with_reducible rfl)
 try simp only[Act.put,List.setIfInBounds_toArray,List.set_cons_zero,List.set_cons_succ]
 refine wpAnyH_take (i:=11) (oi:=⟨some 14,_,_,_,_,_⟩) (v:=?_) rfl (by kernel_rfl) (by kernel_rfl) (by kernel_rfl) (fun _ _ _ h=>h) (Or.inl ⟨by rfl,?_⟩) (by assumption) ?_
 rotate_left
 ·(intro w hSw;(try dsimp only at hSw);go_simp;try with_reducible rfl)
 try simp only[Act.put,List.setIfInBounds_toArray,List.set_cons_zero,List.set_cons_succ]
 refine wpAnyH_take (i:=12) (oi:=⟨some 15,_,_,_,_,_⟩) (v:=?_) rfl (by kernel_rfl) (by kernel_rfl) (by kernel_rfl) (fun _ _ _ h=>h) (Or.inl ⟨by rfl,?_⟩) (by assumption) ?_
 rotate_left
 ·(intro w hSw;refine Eq.trans (kob_r hSw 0 _ (by rfl) (by rfl) (by rfl)) ?_;with_reducible rfl)
 try simp only[Act.put,List.setIfInBounds_toArray,List.set_cons_zero,List.set_cons_succ]
 refine wpAnyH_take (i:=13) (oi:=⟨some 16,_,_,_,_,_⟩) (v:=?_) rfl (by kernel_rfl) (by kernel_rfl) (by kernel_rfl) (fun _ _ _ h=>h) (Or.inl ⟨by rfl,?_⟩) (by assumption) ?_
 rotate_left
 ·(intro w hSw;(try dsimp only at hSw);go_simp;try with_reducible rfl)
 try simp only[Act.put,List.setIfInBounds_toArray,List.set_cons_zero,List.set_cons_succ]
 refine wpAnyH_take (i:=14) (oi:=⟨some 17,_,_,_,_,_⟩) (v:=?_) rfl (by kernel_rfl) (by kernel_rfl) (by kernel_rfl) (fun _ _ _ h=>h) (Or.inl ⟨by rfl,?_⟩) (by assumption) ?_
 rotate_left
 ·(intro w hSw;(try dsimp only at hSw);go_simp;try with_reducible rfl)
 try simp only[Act.put,List.setIfInBounds_toArray,List.set_cons_zero,List.set_cons_succ]
 refine wpAnyH_take (i:=15) (oi:=⟨some 18,_,_,_,_,_⟩) (v:=?_) rfl (by kernel_rfl) (by kernel_rfl) (by kernel_rfl) (fun _ _ _ h=>h) (Or.inl ⟨by rfl,?_⟩) (by assumption) ?_
 rotate_left
 ·(intro w hSw;(try dsimp only at hSw);go_simp;try with_reducible rfl)
 try simp only[Act.put,List.setIfInBounds_toArray,List.set_cons_zero,List.set_cons_succ]
 refine wpAnyH_take (i:=16) (oi:=⟨some 19,_,_,_,_,_⟩) (v:=?_) rfl (by kernel_rfl) (by kernel_rfl) (by kernel_rfl) (fun _ _ _ h=>h) (Or.inl ⟨by rfl,?_⟩) (by assumption) ?_
 rotate_left
 ·(intro w hSw;refine Eq.trans (kob_d hSw 0 _ (by rfl) (by rfl) (by rfl)) ?_;with_reducible rfl)
 try simp only[Act.put,List.setIfInBounds_toArray,List.set_cons_zero,List.set_cons_succ]
 refine wpAnyH_take (i:=17) (oi:=⟨some 20,_,_,_,_,_⟩) (v:=?_) rfl (by kernel_rfl) (by kernel_rfl) (by kernel_rfl) (fun _ _ _ h=>h) (Or.inl ⟨by rfl,?_⟩) (by assumption) ?_
 rotate_left
 ·(intro w hSw;(try dsimp only at hSw);go_simp;try with_reducible rfl)
 try simp only[Act.put,List.setIfInBounds_toArray,List.set_cons_zero,List.set_cons_succ]
 refine wpAnyH_take (i:=18) (oi:=⟨some 21,_,_,_,_,_⟩) (v:=?_) rfl (by kernel_rfl) (by kernel_rfl) (by kernel_rfl) (fun _ _ _ h=>h) (Or.inl ⟨by rfl,?_⟩) (by assumption) ?_
 rotate_left
 ·(intro w hSw;(try dsimp only at hSw);go_simp;try with_reducible rfl)
 try simp only[Act.put,List.setIfInBounds_toArray,List.set_cons_zero,List.set_cons_succ]
 refine wpAnyH_take (i:=19) (oi:=⟨some 22,_,_,_,_,_⟩) (v:=?_) rfl (by kernel_rfl) (by kernel_rfl) (by kernel_rfl) (fun _ _ _ h=>h) (Or.inl ⟨by rfl,?_⟩) (by assumption) ?_
 rotate_left
 ·(intro w hSw;refine Eq.trans (kob_m hSw 0 _ (by rfl) (by rfl) (by rfl)) ?_;with_reducible rfl)
 try simp only[Act.put,List.setIfInBounds_toArray,List.set_cons_zero,List.set_cons_succ]
 refine wpAnyH_take (i:=20) (oi:=⟨some 23,_,_,_,_,_⟩) (v:=?_) rfl (by kernel_rfl) (by kernel_rfl) (by kernel_rfl) (fun _ _ _ h=>h) (Or.inl ⟨by rfl,?_⟩) (by assumption) ?_
 rotate_left
 ·(intro w hSw;(try dsimp only at hSw);go_simp;try with_reducible rfl)
 try simp only[Act.put,List.setIfInBounds_toArray,List.set_cons_zero,List.set_cons_succ]
 refine wpAnyH_take (i:=21) (oi:=⟨some 24,_,_,_,_,_⟩) (v:=?_) rfl (by kernel_rfl) (by kernel_rfl) (by kernel_rfl) (fun _ _ _ h=>h) (Or.inl ⟨by rfl,?_⟩) (by assumption) ?_
 rotate_left
 ·(intro w hSw;refine Eq.trans (exec_mne (x:=x.v.mt) (y:=Mt.zero) _ _ (by rfl) (by rfl) (by rfl) (b:=!decide (x.v.mt=Mt.zero)) rfl) ?_;with_reducible rfl)
 try simp only[Act.put,List.setIfInBounds_toArray,List.set_cons_zero,List.set_cons_succ]
 refine wpAnyH_take (i:=22) (oi:=⟨some 25,_,_,_,_,_⟩) (v:=?_) rfl (by kernel_rfl) (by kernel_rfl) (by kernel_rfl) (fun _ _ _ h=>h) (Or.inl ⟨by rfl,?_⟩) (by assumption) ?_
 rotate_left
 ·(intro w hSw;(try dsimp only at hSw);go_simp;try with_reducible rfl)
 try simp only[Act.put,List.setIfInBounds_toArray,List.set_cons_zero,List.set_cons_succ]
 refine wpAnyH_ready (rs:=[23]) (by kernel_rfl) (by simp) ?_
 refine AllReadyH.cons (o:=⟨none,_,_,_,_,_⟩) rfl (fun K hK=>?_) AllReadyH.nil
 refine step_ss HK 1 (by rfl) _ _ _ (by rfl) (by rfl) (by rfl) (by rfl) (by show 6≤6;decide) info_fl (by simp[Value.oneCell']) ?_;intro _ HK' _;simp only[List.set] at HK';replace HK:=HK';clear HK';have hs:=zH (HK.out.takeL 1)
 refine hK.out _ _ hs (fun hHeld=>?_)
 clear hK K
 try simp only[ap1,ap2,ap3,ap4,ap5]
 refine wpAnyH_done (by kernel_rfl) ?_ _
 go_wp2_with fail
 refine ret_fl (b0:=!decide (x.v.cap=0)) (b1:=decide (0<x.pn)) (b2:=decide (0<x.vn)) (b3:=decide (0<x.rn)) (b4:=!decide (x.v.round=0)) Try.results72 rfl rfl ?_ ⟨rfl,HK.out.b⟩
 have hb:=HK.out.blk 1 rfl
 clear HK hHeld
 simp[putCells,fl] at hb ⊢
 exact hb
theorem clean_at(o:Sto.Ob):Sto.clean o=true↔Sto.is o.kind=true∧∀j,j<6→¬(at6 (Sto.f0 o) (Sto.f1 o) (Sto.f2 o) (Sto.f3 o) (Sto.f4 o) (Sto.f5 o) j=true∧at6 (Sto.h0 o.kind) (Sto.h1 o.kind) (Sto.h2 o.kind) (Sto.h3 o.kind) (Sto.h4 o.kind) (Sto.h5 o.kind) j=false):=by
 unfold Sto.clean
 generalize Sto.f0 o=b0
 generalize Sto.f1 o=b1
 generalize Sto.f2 o=b2
 generalize Sto.f3 o=b3
 generalize Sto.f4 o=b4
 generalize Sto.f5 o=b5
 generalize Sto.h0 o.kind=a0
 generalize Sto.h1 o.kind=a1
 generalize Sto.h2 o.kind=a2
 generalize Sto.h3 o.kind=a3
 generalize Sto.h4 o.kind=a4
 generalize Sto.h5 o.kind=a5
 have key:∀b a:Bool,(!b || a)=true↔¬(b=true∧a=false):=fun b a=>by cases b<;>cases a<;>simp
 simp only[Bool.and_eq_true,key]
 constructor
 ·rintro ⟨h,⟨⟨⟨⟨⟨g0,g1⟩,g2⟩,g3⟩,g4⟩,g5⟩⟩
  refine⟨h,fun j hj=>?_⟩
  match j,hj with
  | 0,_=>exact g0
  | 1,_=>exact g1
  | 2,_=>exact g2
  | 3,_=>exact g3
  | 4,_=>exact g4
  | 5,_=>exact g5
 ·rintro ⟨h,g⟩
  exact⟨h,⟨⟨⟨⟨⟨g 0 (by decide),g 1 (by decide)⟩,g 2 (by decide)⟩,g 3 (by decide)⟩,g 4 (by decide)⟩,g 5 (by decide)⟩⟩
theorem clean_any(x:Oh)(w:World)(hx:In w x):Calls Try.prog 42 #[.agg (obA x)] w (IsB (Sto.clean x.v) w):=by
 have HN:=zH (fun W=>having_any x.v.kind W)
 have HF:=zH (fun W (hW:Below w.heap.size w W)=>sfilled_any x W (hx.later hW))
 have H0:=zH (clean_at x.v)
 clear hx
 unfold IsB IsN IsF at *
 generalize Sto.clean x.v=z at *
 generalize Sto.h0 x.v.kind=a0 at *
 generalize Sto.h1 x.v.kind=a1 at *
 generalize Sto.h2 x.v.kind=a2 at *
 generalize Sto.h3 x.v.kind=a3 at *
 generalize Sto.h4 x.v.kind=a4 at *
 generalize Sto.h5 x.v.kind=a5 at *
 generalize Sto.is x.v.kind=ok at *
 generalize Sto.f0 x.v=b0 at *
 generalize Sto.f1 x.v=b1 at *
 generalize Sto.f2 x.v=b2 at *
 generalize Sto.f3 x.v=b3 at *
 generalize Sto.f4 x.v=b4 at *
 generalize Sto.f5 x.v=b5 at *
 have HK:=kn1 w 69 (obA x)
 go_enter Try.func42,Try.ntmps42
 go_wp2_with (first|refine wpList_exe (kob_k HK 0 _ (by rfl) (by rfl) (by rfl)) (by rfl) ?_)
 refine(HN.out _).mono ?_;rintro e w1 ⟨rfl,x1⟩
 replace HK:=hkC HK x1
 clear x1
 go_upto_region 2 with (first|(refine wpList_akF HK rfl rfl ?_;intro _ g3 HK';simp only[lcA,lnA] at HK';replace HK:=HK';clear HK')|(refine wpList_sfL HK 1 rfl _ _ rfl rfl rfl rfl ?_;intro _ HK' _;simp only[List.set] at HK';replace HK:=HK';clear HK'))
 go_wp2_with (first|refine wpList_exe (kob HK 0 _ (by rfl) (by rfl) (by rfl)) (by rfl) ?_)
 refine(HF.out _ HK.out.b).mono ?_;rintro e w2 ⟨rfl,x2⟩
 replace HK:=hkC HK x2
 clear x2
 go_upto_region 3 with (first|(refine wpList_akF HK rfl rfl ?_;intro _ g4 HK';simp only[lcA,lnA] at HK';replace HK:=HK';clear HK')|(refine wpList_sfL HK 2 rfl _ _ rfl rfl rfl rfl ?_;intro wz HK' _;simp only[List.set] at HK';replace HK:=HK';clear HK'))
 have HG:Hid (∀j,j<6→wz.cell? ⟨g3,j,none⟩=some (.bool (at6 a0 a1 a2 a3 a4 a5 j))∧wz.cell? ⟨g4,j,none⟩=some (.bool (at6 b0 b1 b2 b3 b4 b5 j))):=zH fun j hj=>And.intro (HK.out.cell 1 rfl j (at6_cell hj)) (HK.out.cell 2 rfl j (at6_cell hj))
 have HKB:=zH HK.out.b
 clear HK HN HF
 generalize HA:at6 a0 a1 a2 a3 a4 a5=fa at *
 generalize HBf:at6 b0 b1 b2 b3 b4 b5=fb at *
 clear HA HBf
 go_wp2_with fail
 go_loopw [15] (fun vi wr=>∃k:Nat,k≤6∧vi=.int .i64 k∧wr=wz∧Hid (∀j,j<k→¬(fb j=true∧fa j=false))) (fun vi _=>6-(intOf vi).toNat)
 case atStart=>exact⟨0,Nat.zero_le _,rfl,rfl,zH fun j hj=>absurd hj (by omega)⟩
 case round=>
  obtain⟨q,hq,rfl,rfl,hh⟩:=hrel
  by_cases hlt:q<6
  ·obtain⟨c1,c2⟩:=HG.out q hlt
   have hk1:(0:Int)≤(q:Int):=by omega
   have hk2:(q:Int)<6:=by omega
   have HS:Hid (¬(fb q=true∧fa q=false)→∀j,j<q+1→¬(fb j=true∧fa j=false)):=zH fun h j hj=>by
    by_cases e:j=q
    ·subst e;exact h
    ·exact hh.out j (by omega)
   have HX:Hid ((fb q=true∧fa q=false)→z=false):=zH fun h=>Bool.eq_false_iff.2 fun hz=>(H0.out.1 hz).2 q hlt h
   generalize fa q=xa at *
   generalize fb q=xb at *
   have hc:xb=false∨(xb=true∧xa=true)∨(xb=true∧xa=false):=by cases xa<;>cases xb<;>simp
   rcases hc with rfl|⟨rfl,rfl⟩|⟨rfl,rfl⟩
   ·go_wp2_with fail
    exact⟨⟨q+1,by omega,by go_num,by simp,zH (HS.out (by simp))⟩,by simp[intOf];omega⟩
   ·go_wp2_with fail
    exact⟨⟨q+1,by omega,by go_num,by simp,zH (HS.out (by simp))⟩,by simp[intOf];omega⟩
   ·go_wp2_with fail
    go_ret
    have hz:=HX.out (by simp)
    subst hz
    exact⟨rfl,HKB.out⟩
  ·obtain rfl:q=6:=by omega
   have hz:z=ok:=by
    cases ok
    ·exact Bool.eq_false_iff.2 fun hz=>by cases (H0.out.1 hz).1
    ·exact H0.out.2 ⟨rfl,hh.out⟩
   subst hz
   go_wp2_with fail
   go_ret
   exact⟨rfl,HKB.out⟩
end
section
open Go.RowKit
theorem pchk_any(key:ByteArray)(v:Val.V)(w:World)(hf:v.f<18446744073709551616):
  Calls Try.prog 84 #[.string key,vv v] w (IsE (Dct.pchk key v) w):=by
 have HC:=zH (fun W=>check_any v W hf)
 clear hf
 unfold Dct.pchk
 obtain⟨k,n,f,s⟩:=v
 unfold vv IsE at *
 simp only at HC ⊢
 generalize Val.chk ⟨k,n,f,s⟩=z at *
 have HK:=kn1 w 26 (vC k n f s)
 unfold vC at HK
 by_cases hk:k=0
 ·subst hk
  rw[if_pos rfl]
  go_enter Try.func84,Try.ntmps84
  go_wp2_with fail
  go_ret
  exact⟨rfl,HK.out.b⟩
 ·rw[if_neg hk]
  have hk2:(k==0)=false:=by simpa using hk
  by_cases hl:64<key.size
  ·rw[if_pos hl]
   have hl2:64<(key.size:Int):=by omega
   go_enter Try.func84,Try.ntmps84
   go_wp2_with fail
   go_ret
   exact⟨rfl,HK.out.b⟩
  ·rw[if_neg hl]
   have hl2:¬64<(key.size:Int):=by omega
   go_enter Try.func84,Try.ntmps84
   go_wp2_with (first|refine wpList_of_exec (by rfl) (kexec_vv HK 0 _ rfl rfl rfl) ?_)
   refine(HC.out _).mono ?_;rintro e w1 ⟨rfl,b1⟩
   replace HK:=hkC HK b1
   go_wp2_with fail
   go_ret
   exact⟨rfl,HK.out.b⟩
end
end Go.Proofs.Ytieoeendnccafaa
