/- How values lie in a slice; loads of one, of its kind; arguments that are slices of values. No condition but those named. -/
import Derived.Test.YtieoeendnccafaaGreatMTK
import Derived.Test.YtieoeendnccafaaGreatMAG
import Derived.Test.YtieoeendnccafaaGreatMAD
import Derived.Test.YtieoeendnccafaaGreatMAF
import Derived.Test.YtieoeendnccafaaGreatMAA
import Derived.Test.YtieoeendnccafaaGreatRows
import Derived.Deep.RegionWith
import Derived.Deep.RegionHeld3
import Derived.Deep.Draws
import Derived.Lib.Hide
import Derived.KernelRfl
import Derived.Great.BuildSlice
set_option linter.unusedSimpArgs false
set_option linter.unusedVariables false
set_option maxRecDepth 100000
set_option maxHeartbeats 25600000
namespace Go.Proofs.YtieoeendnccafaaGreat
section
open Go.RowKit
def IsB(b:Bool)(w:World)(e:Ending)(w':World):Prop:=e=.returned (.bool b)∧Below w.heap.size w w'
section
variable {w:World}{ops:Array Oper}{rest:List Oper}{o:Oper}{a:Act}{Q:Exit→Act→World→Prop}
theorem exec_sub1{j:Nat}(p:Operand)(ho:o.op=.binOp .sub 3 p (.const (.int .i64 1)) 3)(hp:a.eval p=.int .i64 ((j+1:Nat):Int))(h:j<9223372036854775807):
  (execOp a.eval o).run Tryz.prog w=.ok (.value (.int .i64 (j:Int))) w:=by
 have hw:IntKind.i64.wrap (j:Int)=(j:Int):=by rw[IntKind.wrap_i64];omega
 have he:a.eval (.const (.int .i64 1))=.int .i64 1:=rfl
 unfold execOp
 simp only[ho,hp,he]
 go_simp
theorem exec_add1{j:Nat}(p:Operand)(ho:o.op=.binOp .add 3 p (.const (.int .i64 1)) 3)(hp:a.eval p=.int .i64 (j:Int))(h:j<9223372036854775807):
  (execOp a.eval o).run Tryz.prog w=.ok (.value (.int .i64 ((j+1:Nat):Int))) w:=by
 have hw:IntKind.i64.wrap ((j:Int)+1)=(j:Int)+1:=by rw[IntKind.wrap_i64];omega
 have he:a.eval (.const (.int .i64 1))=.int .i64 1:=rfl
 unfold execOp
 simp only[ho,hp,he]
 go_simp
theorem exec_cell{ad:Addr}{v:Value}{ty:TypeId}{d:TypeDesc}(p:Operand)(ho:o.op=.load ty p)(hx:a.eval p=.pointer (some ad))(hc:w.cell? ad=some v)(hu:Tryz.prog.underlying ty=some d)(hd:d.isRow=false):
  (execOp a.eval o).run Tryz.prog w=.ok (.value v) w:=by
 have hagg:(isAgg ty).run Tryz.prog w=.ok false w:=by
  unfold isAgg
  rw[Sem.run_bind,run_underlying hu w]
  cases d<;>simp_all
 have h:(loadVar ty ad).run Tryz.prog w=.ok v w:=by
  simp[loadVar,Sem.run_bind,hagg,hc]
 unfold execOp
 simp only[ho,hx,Instr.loadAt,Instr.sureAddr,Sem.run_bind,Sem.run_pure,Result.andThen_ok,h]
theorem wpList_exe{P:Program}{w:World}{v:Value}(hr:(execOp a.eval o).run P w=.ok (.value v) w)(hw:Region.wanted o (yielded ops a.tmps)=true)(h:wpList P ops Q rest (a.put o.dst v) w):wpList P ops Q (o::rest) a w:=
 wpList_of_exec hw hr h
theorem zX{P:Program}{w:World}{v:Value}(hr:(execOp a.eval o).run P w=.ok (.value v) w)(h:wpList P ops Q rest (a.put o.dst v) w)(hw:Region.wanted o (yielded ops a.tmps)=true:=by rfl):wpList P ops Q (o::rest) a w:=wpList_of_exec hw hr h
theorem exec_gt{x k:Int}{b:Bool}(p:Operand)(ho:o.op=.binOp .gtr 3 p (.const (.int .i64 k)) 3)(hp:a.eval p=.int .i64 x)(hb:decide (k<x)=b):
  (execOp a.eval o).run Tryz.prog w=.ok (.value (.bool b)) w:=by
 have he:a.eval (.const (.int .i64 k))=.int .i64 k:=rfl
 subst hb
 unfold execOp
 simp only[ho,hp,he]
 go_simp
end
theorem ret_t2{fn:Func}{R:Ending→World→Prop}{a:Act}{w:World}{u z:Value}{q q2:Tmp}(hf:fn.results=#[.tmp q,.tmp q2])(h3:a.tmps[q]?=some u)(h4:a.tmps[q2]?=some z)(hd:a.defers=[])
  (hR:R (.returned (.tuple #[u,z])) w):bodyPost Tryz.prog fn R Exit.ret a w:=by
 refine bodyPost_ret (v:=.tuple #[u,z]) ?_ hd hR
 simp[results,hf,Sem.run_bind,h3,h4]
theorem step_of_exec{P:Program}{ops:Array Oper}{o:Oper}{a:Act}{w:World}{K:Act→World→Prop}{Q:Exit→Act→World→Prop}{E:Prop}{v:Value}(hw:Region.wanted o (yielded ops a.tmps)=true)(hr:(execOp a.eval o).run P w=.ok (.value v) w)(h:K (a.put o.dst v) w):
  if Region.wanted o (yielded ops a.tmps)=true then Oper.wp P o a w K Q else E:=by
 rw[if_pos hw]
 unfold Oper.wp
 rw[hr,Oper.upon_value]
 exact h
end
section
open Go.RowKit
section
variable {w:World}{ops:Array Oper}{rest:List Oper}{o:Oper}{a:Act}{Q:Exit→Act→World→Prop}
theorem veq_all(v u:Val.V):decide (v=u)=(decide (v.k=u.k)&&decide (v.n=u.n)&&decide ((v.f:Int)=(u.f:Int))&&decide (v.s.toList=u.s.toList)):=by
 obtain⟨k,n,f,s⟩:=v
 obtain⟨k',n',f',s'⟩:=u
 have e:(⟨k,n,f,s⟩:Val.V)=⟨k',n',f',s'⟩↔(k=k'∧n=n'∧f=f'∧s=s'):=by simp
 show decide ((⟨k,n,f,s⟩:Val.V)=⟨k',n',f',s'⟩)=(decide (k=k')&&decide (n=n')&&decide ((f:Int)=(f':Int))&&decide (s.toList=s'.toList))
 have e2:((f:Int)=(f':Int))↔f=f':=by omega
 have e4:s.toList=s'.toList↔s=s':=Val.str_iff.symm
 by_cases h:(⟨k,n,f,s⟩:Val.V)=⟨k',n',f',s'⟩
 ·obtain⟨rfl,rfl,rfl,rfl⟩:=e.1 h
  simp
 ·have h':=fun hh=>h (e.2 hh)
  rw[decide_eq_false h]
  by_cases h1:k=k'
  ·by_cases h2:n=n'
   ·by_cases h3:f=f'
    ·have h4:¬s=s':=fun h4=>h' ⟨h1,h2,h3,h4⟩
     rw[decide_eq_false (fun e5=>h4 (e4.1 e5))];simp
    ·rw[decide_eq_false (p:=(f:Int)=(f':Int)) (fun e5=>h3 (e2.1 e5))];simp
   ·rw[decide_eq_false h2];simp
  ·rw[decide_eq_false h1];simp
theorem exec_vne{v u:Val.V}{b:Bool}(p q:Operand)(ho:o.op=.binOp .neq 26 p q 26)(hx:a.eval p=.agg #[.int .i64 v.k,.int .i64 v.n,.int .u64 (v.f:Int),.string v.s])(hy:a.eval q=.agg #[.int .i64 u.k,.int .i64 u.n,.int .u64 (u.f:Int),.string u.s])(hb:(!decide (v=u))=b):
  (execOp a.eval o).run Tryz.prog w=.ok (.value (.bool b)) w:=by
 rw[veq_all] at hb
 subst hb
 unfold execOp
 simp only[ho,hx,hy]
 go_simp
 by_cases h1:v.k=u.k<;>by_cases h2:v.n=u.n<;>by_cases h3:(v.f:Int)=(u.f:Int)<;>by_cases h4:v.s.toList=u.s.toList<;>simp[h1,h2,h3,h4]
end
end
section
open Go.ChangeShapes Go.WideShapes Go.Deep Go.RowKit
section
variable {H:Type}{enc:TypeId×Value→H}{W:World}{base:Nat}{α:Type}
def OpensT(enc:TypeId×Value→H)(e:TypeId)(f:α→List Value)(Good:α→Prop):Prop:=
 ∀(W:World) (n:Nat) (cs:List Value) (x:DataW H×List MemPlace),DataW.trod enc Tryz.prog W 0 (fun _=>true) true n e cs=some x→∃it:α,cs=f it∧Good it
theorem Lift.Given.one{e:TypeId}{f:α→List Value}{Good:α→Prop}(hop:OpensT enc e f Good){fs:Array Field}(hs:Tryz.prog.underlying e=some (.struct fs))
  {ts:List TypeId} {args:List Value} {ds:List (DataW H)} {before:List MemPlace} (h:Lift.Given enc Tryz.prog (e::ts) W base args ds before) :
  ∃(x:α) (vs:List Value) (d:DataW H) (ds':List (DataW H)) (q:List MemPlace),args=.agg (f x).toArray::vs∧ds=d::ds'∧Good x∧Lift.Given enc Tryz.prog ts W base vs ds' q:=by
 obtain⟨v,vs,d,ds',p,q,rfl,rfl,rfl,h0,hok,_,hw,hg⟩:=h.cons
 obtain⟨fuel,h0⟩:=h0
 obtain⟨cs,rfl,hsz⟩:=okWide_struct hs hok
 obtain⟨it,hit,hgd⟩:=hop W _ _ _ h0
 refine⟨it,vs,d,ds',q,?_,rfl,hgd,hg⟩
 have hc:cs.toList=f it:=by simpa [Value.cells] using hit
 rw[← hc]
end
end
section
open Go.ChangeShapes Go.WideShapes Go.Deep Go.RowKit
def vaL(v:Val.V):List Value:=[.int .i64 v.k,.int .i64 v.n,.int .u64 (v.f:Int),.string v.s]
section
variable {H:Type}{enc:TypeId×Value→H}{W:World}{base:Nat}{α:Type}
theorem cells_val:Tryz.prog.cellsOf 26=4:=by kernel_rfl
theorem opens_val:OpensT enc 26 vaL (fun v=>v.f<18446744073709551616):=fun W n cs x ht=>by
 obtain⟨ys,m,_,hx,hlen,hyl,hf⟩:=DataW.trod_struct Tryz.underlying26 ht
 have hlen:cs.length=Tryz.prog.cellsOf 26:=hlen
 rw[cells_val] at hlen
 match cs,hlen,ys,hyl with
 | [v0,v1,v2,v3],_,[y0,y1,y2,y3],_=>
  have f0:=hf 0 _ rfl
  have f1:=hf 1 _ rfl
  have f2:=hf 2 _ rfl
  have f3:=hf 3 _ rfl
  simp only[List.getElem?_cons_zero,List.getElem?_cons_succ] at f0 f1 f2 f3
  obtain⟨a0,e0,_,_⟩:=DataW.trod_int Tryz.underlying3 f0
  obtain⟨a1,e1,_,_⟩:=DataW.trod_int Tryz.underlying3 f1
  obtain⟨a2,e2,_,w2⟩:=DataW.trod_int Tryz.underlying24 f2
  obtain⟨a3,e3,_,_⟩:=DataW.trod_string Tryz.underlying9 f3
  cases e0;cases e1;cases e2;cases e3
  obtain⟨u,rfl,hu⟩:=u64_lt w2
  exact⟨⟨a0,a1,u,a3⟩,rfl,hu⟩
theorem Lift.Given.val{ts:List TypeId}{args:List Value}{ds:List (DataW H)}{before:List MemPlace}(h:Lift.Given enc Tryz.prog (26::ts) W base args ds before):
  ∃(x:Val.V) (vs:List Value) (d:DataW H) (ds':List (DataW H)) (q:List MemPlace),args=.agg (vaL x).toArray::vs∧ds=d::ds'∧x.f<18446744073709551616∧Lift.Given enc Tryz.prog ts W base vs ds' q:=h.one opens_val Tryz.underlying26
end
end
section
open Go.ChangeShapes Go.WideShapes Go.Deep Go.RowKit
def rpA(p:Sto.Rp):Array Value:=#[.int .i64 p.e,.int .i64 p.v.k,.int .i64 p.v.n,.int .u64 (p.v.f:Int),.string p.v.s]
theorem info_rp:(Tryz.prog.info? 28).map (·.size)=some 5:=by kernel_rfl
section
variable {w:World}{o:Oper}{a:Act}{p q:Sto.Rp}
theorem rpq_all(p q:Sto.Rp):decide (p=q)=(decide (p.e=q.e)&&(decide (p.v.k=q.v.k)&&decide (p.v.n=q.v.n)&&decide ((p.v.f:Int)=(q.v.f:Int))&&decide (p.v.s.toList=q.v.s.toList))):=by
 obtain⟨e,v⟩:=p
 obtain⟨e',v'⟩:=q
 rw[← veq_all]
 show _=(decide (e=e')&&decide (v=v'))
 by_cases h1:e=e'<;>by_cases h2:v=v'<;>simp[h1,h2]
theorem exec_rpe{b:Bool}(i j:Operand)(ho:o.op=.binOp .eql 28 i j 28)(hx:a.eval i=.agg (rpA p))(hy:a.eval j=.agg (rpA q))(hb:decide (p=q)=b):
  (execOp a.eval o).run Tryz.prog w=.ok (.value (.bool b)) w:=by
 rw[rpq_all] at hb
 subst hb
 unfold execOp
 simp only[ho,hx,hy]
 unfold rpA
 go_simp
 by_cases h0:p.e=q.e<;>by_cases h1:p.v.k=q.v.k<;>by_cases h2:p.v.n=q.v.n<;>by_cases h3:(p.v.f:Int)=(q.v.f:Int)<;>by_cases h4:p.v.s.toList=q.v.s.toList<;>simp[h0,h1,h2,h3,h4]
theorem exec_rpn{b:Bool}(i j:Operand)(ho:o.op=.binOp .neq 28 i j 28)(hx:a.eval i=.agg (rpA p))(hy:a.eval j=.agg (rpA q))(hb:(!decide (p=q))=b):
  (execOp a.eval o).run Tryz.prog w=.ok (.value (.bool b)) w:=by
 rw[rpq_all] at hb
 subst hb
 unfold execOp
 simp only[ho,hx,hy]
 unfold rpA
 go_simp
 by_cases h0:p.e=q.e<;>by_cases h1:p.v.k=q.v.k<;>by_cases h2:p.v.n=q.v.n<;>by_cases h3:(p.v.f:Int)=(q.v.f:Int)<;>by_cases h4:p.v.s.toList=q.v.s.toList<;>simp[h0,h1,h2,h3,h4]
end
section
variable {H:Type}{enc:TypeId×Value→H}{W:World}{base:Nat}
theorem cells_rp:Tryz.prog.cellsOf 28=5:=by kernel_rfl
def rpL(p:Sto.Rp):List Value:=[.int .i64 p.e,.int .i64 p.v.k,.int .i64 p.v.n,.int .u64 (p.v.f:Int),.string p.v.s]
theorem opens_rp:OpensT enc 28 rpL (fun p=>p.v.f<18446744073709551616):=fun W n cs x ht=>by
 obtain⟨ys,m,_,hx,hlen,hyl,hf⟩:=DataW.trod_struct Tryz.underlying28 ht
 have hlen:cs.length=Tryz.prog.cellsOf 28:=hlen
 rw[cells_rp] at hlen
 match cs,hlen,ys,hyl with
 | [v0,v1,v2,v3,v4],_,[y0,y1],_=>
  have f0:=hf 0 _ rfl
  have f1:=hf 1 _ rfl
  simp only[List.getElem?_cons_zero,List.getElem?_cons_succ] at f0 f1
  obtain⟨a0,e0,_,_⟩:=DataW.trod_int Tryz.underlying23 f0
  obtain⟨a1,e1,w1⟩:=opens_val (enc:=enc) W _ _ _ f1
  cases e0;cases e1
  exact⟨⟨a0,a1⟩,rfl,w1⟩
end
end
section
open Go.RowKit
def prL(p:Dct.Pr):List Value:=[.string p.key,.int .i64 p.val.k,.int .i64 p.val.n,.int .u64 (p.val.f:Int),.string p.val.s]
def prC(key:ByteArray)(k n:Int)(f:Nat)(s:ByteArray):Array Value:=#[.string key,.int .i64 k,.int .i64 n,.int .u64 (f:Int),.string s]
def prA(p:Dct.Pr):Array Value:=prC p.key p.val.k p.val.n p.val.f p.val.s
theorem info_prl:(Tryz.prog.info? 103).map (fun i=>(i.zero,i.size,i.bytes))=some (some (Value.agg #[.string ⟨#[]⟩,.int .i64 0,.int .i64 0,.int .u64 0,.string ⟨#[]⟩]),5,56):=by kernel_rfl
theorem info_pr:(Tryz.prog.info? 103).map (·.size)=some 5:=by kernel_rfl
def prLay:Lay Tryz.prog Dct.Pr where
 t:=57
 e:=103
 k:=5
 bytes:=56
 z:=.agg #[.string ⟨#[]⟩,.int .i64 0,.int .i64 0,.int .u64 0,.string ⟨#[]⟩]
 f:=prL
 len:=fun _=>rfl
 one:=fun x u hu=>by
  unfold prL at hu
  simp only[List.mem_cons,List.not_mem_nil,or_false] at hu
  rcases hu with rfl|rfl|rfl|rfl|rfl<;>rfl
 und:=Tryz.underlying57
 info:=info_prl
 zs:=rfl
 pos:=by decide
 small:=by decide
structure Sl(w:World)(A:Option Addr)(n c:Nat)(l:List Dct.Pr):Prop where
 len:l.length=n
 cap:n≤c
 rd:prLay.Reads w w.heap.size A l
 nl:A=none→l=[]
 fs:∀x∈l,x.val.f<18446744073709551616
 big:n≤2513169434916
theorem Sl.later{w w':World}{A:Option Addr}{n c:Nat}{l:List Dct.Pr}(h:Sl w A n c l)(hb:Below w.heap.size w w'):Sl w' A n c l:=
 ⟨h.len,h.cap,h.rd.later hb (Nat.le_refl _),h.nl,h.fs,h.big⟩
theorem Sl.none(w:World):Sl w none 0 0 []:=⟨rfl,Nat.le_refl _,Lay.Reads.nil _ _ _,fun _=>rfl,(fun x hx=>by simp at hx),by decide⟩
structure Fit(l:List Dct.Pr):Prop where
 fs:∀x∈l,x.val.f<18446744073709551616
 big:l.length≤2513169434916
theorem Sl.fit{w:World}{A:Option Addr}{n c:Nat}{l:List Dct.Pr}(h:Sl w A n c l):Fit l:=⟨h.fs,by rw[h.len];exact h.big⟩
theorem Fit.wo{l:List Dct.Pr}(h:Fit l)(k:ByteArray):Fit (Dct.wo l k):=⟨fun x hx=>h.fs x (Dct.wo_mem.1 hx).1,Nat.le_trans (List.length_filter_le _ _) h.big⟩
theorem Fit.ins{l:List Dct.Pr}(h:Fit l)(hu:Dct.Up l)(k:ByteArray){v:Val.V}(hv:v.f<18446744073709551616)(hn:(Dct.wo l k).length<8):Fit (Dct.ins l k v):=by
 have hp:=Dct.ins_perm hu k v
 refine⟨fun x hx=>?_,?_⟩
 ·rcases List.mem_append.1 (hp.mem_iff.1 hx) with hx|hx
  ·exact(h.wo k).fs x hx
  ·rw[List.mem_singleton] at hx;subst hx;exact hv
 ·rw[hp.length_eq,List.length_append]
  show _+1≤_
  omega
theorem Sl.own{w:World}{base:Nat}{A:Option Addr}{n c:Nat}{l:List Dct.Pr}(h:prLay.Own base w (.slice A n c) l)(hfit:Fit l):Sl w A n c l:=by
 obtain⟨hf,hb⟩:=hfit
 have hr:=h.reads
 have hn:=hr.1
 subst hn
 refine⟨rfl,h.cap,hr.2,fun hA=>?_,hf,hb⟩
 subst hA
 rcases h.2 with ⟨_,h0⟩|⟨g,cap,cur,e,_⟩
 ·exact List.length_eq_zero_iff.1 h0
 ·cases e
theorem Sl.at{w:World}{A:Option Addr}{n c:Nat}{l:List Dct.Pr}(h:Sl w A n c l)(hn:0<n):∃b o,A=some ⟨b,o,Option.none⟩∧
  ∀W,Below w.heap.size w W→∀i x,l[i]?=some x→∀j v,(prL x)[j]?=some v→W.cell? ⟨b,o+i*5+j,Option.none⟩=some v:=by
 have hl:=h.len
 obtain⟨b,o,rfl,hb,hc⟩:=h.rd (by omega)
 exact⟨b,o,rfl,fun W hW i x hx j v hv=>(hW.cell (p:=⟨b,o+i*5+j,Option.none⟩) hb).trans (hc i x hx j v hv)⟩
theorem Sl.take{w:World}{A:Option Addr}{n c:Nat}{l:List Dct.Pr}(h:Sl w A n c l){hi:Nat}(h2:hi≤n):Sl w A hi c (l.take hi):=
 ⟨by rw[List.length_take,h.len];omega,Nat.le_trans h2 h.cap,h.rd.take hi,(fun e=>by rw[h.nl e];simp),(fun x hx=>h.fs x (List.mem_of_mem_take hx)),Nat.le_trans h2 h.big⟩
def sub(A:Option Addr)(lo c:Nat):Option Addr:=if c=lo then A else A.map (·.add (lo*5))
theorem Sl.sub{w:World}{A:Option Addr}{n c:Nat}{l:List Dct.Pr}(h:Sl w A n c l){lo hi:Nat}(h1:lo≤hi)(h2:hi≤n):Sl w (sub A lo c) (hi-lo) (c-lo) ((l.drop lo).take (hi-lo)):=by
 have hl:=h.len
 have hc:=h.cap
 have hb:=h.big
 have hle:((l.drop lo).take (hi-lo)).length=hi-lo:=by rw[List.length_take,List.length_drop];omega
 have hfs:∀x∈(l.drop lo).take (hi-lo),x.val.f<18446744073709551616:=fun x hx=>h.fs x (List.mem_of_mem_drop (List.mem_of_mem_take hx))
 by_cases h0:hi-lo=0
 ·have he:(l.drop lo).take (hi-lo)=[]:=by rw[h0];rfl
  rw[he]
  exact⟨by rw[h0];rfl,by omega,Lay.Reads.nil _ _ _,fun _=>rfl,(fun x hx=>by simp at hx),by omega⟩
 ·obtain⟨b,o,rfl,hb',hc'⟩:=h.rd (by omega)
  have hA:Go.Proofs.YtieoeendnccafaaGreat.sub (some ⟨b,o,Option.none⟩) lo c=some ⟨b,o+lo*5,Option.none⟩:=by
   unfold Go.Proofs.YtieoeendnccafaaGreat.sub
   rw[if_neg (by omega),Option.map_some,Lay.add_at]
  rw[hA]
  have hr:=((h.rd.drop lo).take (hi-lo))
  exact⟨hle,by omega,hr,(fun e=>by cases e),hfs,by omega⟩
section
variable {b0:Nat}{w0 w:World}{L:List (Nat×TypeId×Array Value)}{R:List RowE}{ops:Array Oper}{rest:List Oper}{o:Oper}{a:Act}{Q:Exit→Act→World→Prop}{K:Act→World→Prop}{E:Prop}{g:Nat}
theorem exec_ix{b off n c i:Nat}(x q:Operand)(ho:o.op=.indexAddr 57 x q)(hx:a.eval x=.slice (some ⟨b,off,none⟩) n c)(hq:a.eval q=.int .i64 (i:Int))(h:i<n):
  (execOp a.eval o).run Tryz.prog w=.ok (.value (.pointer (some ⟨b,off+i*5,none⟩))) w:=by
 have h1:(0:Int)≤(i:Int):=by omega
 have h2:(i:Int)<(n:Int):=by omega
 unfold execOp
 simp only[ho,hx,hq]
 go_simp
theorem exec_sle{x y:ByteArray}{b:Bool}(p q:Operand)(ho:o.op=.binOp .leq 9 p q 9)(hx:a.eval p=.string x)(hy:a.eval q=.string y)(hb:(!Dct.lt y x)=b):
  (execOp a.eval o).run Tryz.prog w=.ok (.value (.bool b)) w:=by
 have he:(Go.Op.bytesLess x.toList y.toList || x.toList==y.toList)=b:=by
  rw[← hb]
  show(Dct.lt x y || x.toList==y.toList)=!Dct.lt y x
  rcases Dct.lt_tri x y with h|rfl|h
  ·rw[h,Dct.lt_asymm h];rfl
  ·rw[Dct.lt_irrefl];simp
  ·rw[h,Dct.lt_asymm h]
   have hne:¬x.toList=y.toList:=fun e=>Dct.lt_ne h (Dct.toList_inj e).symm
   simp[hne]
 unfold execOp
 simp only[ho,hx,hy]
 go_simp
theorem exec_sge{x y:ByteArray}{b:Bool}(p q:Operand)(ho:o.op=.binOp .geq 9 p q 9)(hx:a.eval p=.string x)(hy:a.eval q=.string y)(hb:(!Dct.lt x y)=b):
  (execOp a.eval o).run Tryz.prog w=.ok (.value (.bool b)) w:=by
 subst hb
 unfold execOp Dct.lt
 simp only[ho,hx,hy]
 go_simp
theorem exec_seq{x y:ByteArray}{b:Bool}(p q:Operand)(ho:o.op=.binOp .eql 9 p q 9)(hx:a.eval p=.string x)(hy:a.eval q=.string y)(hb:decide (x=y)=b):
  (execOp a.eval o).run Tryz.prog w=.ok (.value (.bool b)) w:=by
 have he:(x.toList==y.toList)=b:=by rw[← hb];by_cases h:x=y<;>simp[h,Dct.eq_iff.symm]
 unfold execOp
 simp only[ho,hx,hy]
 go_simp
theorem exec_lpr{b off:Nat}{x:Dct.Pr}(p:Operand)(ho:o.op=.load 103 p)(hx:a.eval p=.pointer (some ⟨b,off,none⟩))(hc:∀j v,(prL x)[j]?=some v→w.cell? ⟨b,off+j,none⟩=some v):
  (execOp a.eval o).run Tryz.prog w=.ok (.value (.agg (prA x))) w:=by
 have hr:w.rangeAt b off (prA x).toList:=fun j v hj=>hc j v hj
 have h:=run_loadVar_mid (P:=Tryz.prog) w b off 103 (prA x).toList _ hr Tryz.underlying103 rfl (by
  have h:(Tryz.prog.info? 103).map (·.size)=some (prA x).size:=info_pr
  simpa using h)
 unfold execOp
 simp only[ho,hx,Instr.loadAt,Instr.sureAddr,Sem.run_bind,Sem.run_pure,Result.andThen_ok,h,Array.toArray_toList]
theorem exec_lpv{b off off2:Nat}{x:Dct.Pr}(p:Operand)(ho:o.op=.load 26 p)(hx:a.eval p=.pointer (some ⟨b,off2,none⟩))(ho2:off2=off+1)(hc:∀j v,(prL x)[j]?=some v→w.cell? ⟨b,off+j,none⟩=some v):
  (execOp a.eval o).run Tryz.prog w=.ok (.value (.agg #[.int .i64 x.val.k,.int .i64 x.val.n,.int .u64 (x.val.f:Int),.string x.val.s])) w:=by
 subst ho2
 have hr:w.rangeAt b (off+1) (vC x.val.k x.val.n x.val.f x.val.s).toList:=fun j v hj=>by
  rw[Nat.add_assoc,Nat.add_comm 1 j]
  exact hc (j+1) v hj
 have h:=run_loadVar_mid (P:=Tryz.prog) w b (off+1) 26 (vC x.val.k x.val.n x.val.f x.val.s).toList _ hr Tryz.underlying26 rfl (by
  have h:(Tryz.prog.info? 26).map (·.size)=some (vC x.val.k x.val.n x.val.f x.val.s).size:=info_v4
  simpa using h)
 unfold execOp
 simp only[ho,hx,Instr.loadAt,Instr.sureAddr,Sem.run_bind,Sem.run_pure,Result.andThen_ok,h,Array.toArray_toList]
 rfl
theorem exec_lpk{b off:Nat}{x:Dct.Pr}(p:Operand)(ho:o.op=.load 9 p)(hx:a.eval p=.pointer (some ⟨b,off,none⟩))(hc:∀j v,(prL x)[j]?=some v→w.cell? ⟨b,off+j,none⟩=some v):
  (execOp a.eval o).run Tryz.prog w=.ok (.value (.string x.key)) w:=
 exec_cell p ho hx (hc 0 _ rfl) Tryz.underlying9 rfl
theorem exec_lpn{b off off2:Nat}{x:Dct.Pr}(p:Operand)(ho:o.op=.load 3 p)(hx:a.eval p=.pointer (some ⟨b,off2,none⟩))(ho2:off2=off+1)(hc:∀j v,(prL x)[j]?=some v→w.cell? ⟨b,off+j,none⟩=some v):
  (execOp a.eval o).run Tryz.prog w=.ok (.value (.int .i64 x.val.k)) w:=by
 subst ho2
 exact exec_cell p ho hx (hc 1 _ rfl) Tryz.underlying3 rfl
theorem kexec_ppk{key:ByteArray}{k n:Int}{f:Nat}{s:ByteArray}(HK:Hid (Kn b0 w0 w L R))(i:Nat)(x:Operand)(ho:o.op=.load 9 x)(hL:L[i]?=some (g,103,prC key k n f s))(hx:a.eval x=.pointer (some ⟨g,0,none⟩)):
  (execOp a.eval o).run Tryz.prog w=.ok (.value (.string key)) w:=kexec_lc HK _ x ho i hL hx rfl Tryz.underlying9 rfl
theorem kexec_ppv{key:ByteArray}{k n:Int}{f:Nat}{s:ByteArray}(HK:Hid (Kn b0 w0 w L R))(i:Nat)(x:Operand)(ho:o.op=.load 26 x)(hL:L[i]?=some (g,103,prC key k n f s))(hx:a.eval x=.pointer (some ⟨g,1,none⟩)):
  (execOp a.eval o).run Tryz.prog w=.ok (.value (.agg #[.int .i64 k,.int .i64 n,.int .u64 (f:Int),.string s])) w:=
 kexec_ls HK _ x ho i hL hx #[.int .i64 k,.int .i64 n,.int .u64 (f:Int),.string s] (fun j hj=>by
  match j,hj with
  | 0,_|1,_|2,_|3,_=>rfl) Tryz.underlying26 info_v4
theorem wpList_akp(HK:Hid (Kn b0 w0 w L R))(hgd:o.guard=none)(ho:o.op=.alloc 103)
  (h:∀w' g,Hid (Kn b0 w0 w' (L++[(g,103,prC ⟨#[]⟩ 0 0 0 ⟨#[]⟩)]) R)→wpList Tryz.prog ops Q rest (a.put o.dst (.pointer (some ⟨g,0,none⟩))) w'):wpList Tryz.prog ops Q (o::rest) a w:=
 wpList_plain hgd fun K hK=>by
  have h4:=h _ w.heap.size (zH (HK.out.alloc _ _))
  unfold Oper.wp execOp
  simp only[ho]
  unfold prC at h4
  go_simp
  exact hK _ _ h4
theorem wpList_sp{p1 p2:Dct.Pr}(HK:Hid (Kn b0 w0 w L R))(i:Nat)(hgd:o.guard=none)(p q:Operand)(ho:o.op=.store 103 p q)(hL:L[i]?=some (g,103,prA p1))(hx:a.eval p=.pointer (some ⟨g,0,none⟩))(hy:a.eval q=.agg (prA p2))
  (h:∀w',Hid (Kn b0 w0 w' (L.set i (g,103,prA p2)) R)→wpList Tryz.prog ops Q rest (a.put o.dst undef) w'):wpList Tryz.prog ops Q (o::rest) a w:=
 wpList_ss HK i hgd _ p q ho hL hx hy (by show 5≤5;decide) info_pr (by simp[prA,prC,Value.oneCell']) fun w' h1 h2=>h w' (by
  have e:putCells (prA p1) 0 (prA p2).toList=prA p2:=by
   rw[putCells_all (vs:=(prA p2).toList) (cs:=prA p1) rfl,Array.toArray_toList]
  rw[e] at h1
  exact h1)
end
end
section
open Go.RowKit
section
variable {P:Program}{α:Type}{La:Lay P α}{F:α→Prop}
structure Fits(La:Lay P α)(F:α→Prop)(l:List α):Prop where
 fs:∀x∈l,F x
 big:l.length*La.bytes≤140737488355328
structure Sls(La:Lay P α)(F:α→Prop)(w:World)(A:Option Addr)(n c:Nat)(l:List α):Prop where
 len:l.length=n
 cap:n≤c
 rd:La.Reads w w.heap.size A l
 nl:A=none→l=[]
 fit:Fits La F l
theorem Sls.later{w w':World}{A:Option Addr}{n c:Nat}{l:List α}(h:Sls La F w A n c l)(hb:Below w.heap.size w w'):Sls La F w' A n c l:=
 ⟨h.len,h.cap,h.rd.later hb (Nat.le_refl _),h.nl,h.fit⟩
theorem Sls.none(w:World):Sls La F w none 0 0 []:=⟨rfl,Nat.le_refl _,Lay.Reads.nil _ _ _,fun _=>rfl,⟨(fun x hx=>by simp at hx),by simp⟩⟩
theorem Sls.big{w:World}{A:Option Addr}{n c:Nat}{l:List α}(h:Sls La F w A n c l):n*La.bytes≤140737488355328:=by rw[← h.len];exact h.fit.big
theorem Sls.get{w:World}{A:Option Addr}{n c:Nat}{l:List α}(h:Sls La F w A n c l){k:Nat}(hk:k<n):∃x,l[k]?=some x∧F x:=by
 obtain⟨x,hx⟩:=Lay.get_of (l:=l) (k:=k) (by rw[h.len];exact hk)
 exact⟨x,hx,h.fit.fs x (List.mem_of_getElem? hx)⟩
theorem Lay.Own.rd{w:World}{b:Nat}{A:Option Addr}{n c:Nat}{l:List α}(h:La.Own b w (.slice A n c) l):La.Reads w w.heap.size A l∧(A=Option.none→l=[]):=by
 have hr:=h.reads
 refine⟨hr.2,fun hA=>?_⟩
 subst hA
 rcases h.2 with ⟨_,h0⟩|⟨g,cap,cur,e,_⟩
 ·exact List.length_eq_zero_iff.1 h0
 ·cases e
theorem Sls.own{w:World}{base:Nat}{A:Option Addr}{n c:Nat}{l:List α}(h:La.Own base w (.slice A n c) l)(hfit:Fits La F l):Sls La F w A n c l:=by
 have hn:=h.reads.1
 subst hn
 exact⟨rfl,h.cap,h.rd.1,h.rd.2,hfit⟩
theorem Sls.at{w:World}{A:Option Addr}{n c:Nat}{l:List α}(h:Sls La F w A n c l)(hn:0<n):∃b o,A=some ⟨b,o,Option.none⟩∧
  ∀W,Below w.heap.size w W→∀i x,l[i]?=some x→∀j v,(La.f x)[j]?=some v→W.cell? ⟨b,o+i*La.k+j,Option.none⟩=some v:=by
 have hl:=h.len
 obtain⟨b,o,rfl,hb,hc⟩:=h.rd (by omega)
 exact⟨b,o,rfl,fun W hW i x hx j v hv=>(hW.cell (p:=⟨b,o+i*La.k+j,Option.none⟩) hb).trans (hc i x hx j v hv)⟩
theorem Sls.cells{w:World}{b o n c:Nat}{l:List α}(h:Sls La F w (some ⟨b,o,Option.none⟩) n c l){i:Nat}{x:α}(hx:l[i]?=some x):∀j v,(La.f x)[j]?=some v→w.cell? ⟨b,o+i*La.k+j,Option.none⟩=some v:=by
 have hi:=(List.getElem?_eq_some_iff.1 hx).1
 obtain⟨b',o',e,hat⟩:=h.at (by rw[← h.len];omega)
 injection e with e
 injection e with e1 e2
 subst e1 e2
 exact hat w (Below.refl _ w) i x hx
theorem Fits.sub{l m:List α}(h:Fits La F l)(hm:∀x∈m,x∈l)(hn:m.length≤l.length):Fits La F m:=
 ⟨fun x hx=>h.fs x (hm x hx),Nat.le_trans (Nat.mul_le_mul_right _ hn) h.big⟩
theorem Sls.take{w:World}{A:Option Addr}{n c:Nat}{l:List α}(h:Sls La F w A n c l){hi:Nat}(h2:hi≤n):Sls La F w A hi c (l.take hi):=
 ⟨by rw[List.length_take,h.len];omega,Nat.le_trans h2 h.cap,h.rd.take hi,(fun e=>by rw[h.nl e];simp),h.fit.sub (fun x hx=>List.mem_of_mem_take hx) (by rw[List.length_take];omega)⟩
def subA(k:Nat)(A:Option Addr)(lo c:Nat):Option Addr:=if c=lo then A else A.map (·.add (lo*k))
theorem Sls.sub{w:World}{A:Option Addr}{n c:Nat}{l:List α}(h:Sls La F w A n c l){lo hi:Nat}(h1:lo≤hi)(h2:hi≤n):Sls La F w (subA La.k A lo c) (hi-lo) (c-lo) ((l.drop lo).take (hi-lo)):=by
 have hl:=h.len
 have hc:=h.cap
 have hle:((l.drop lo).take (hi-lo)).length=hi-lo:=by rw[List.length_take,List.length_drop];omega
 have hft:Fits La F ((l.drop lo).take (hi-lo)):=h.fit.sub (fun x hx=>List.mem_of_mem_drop (List.mem_of_mem_take hx)) (by omega)
 by_cases h0:hi-lo=0
 ·have he:(l.drop lo).take (hi-lo)=[]:=by rw[h0];rfl
  rw[he] at hft ⊢
  exact⟨by rw[h0];rfl,by omega,Lay.Reads.nil _ _ _,fun _=>rfl,hft⟩
 ·obtain⟨b,o,rfl,hb',hc'⟩:=h.rd (by omega)
  have hA:subA La.k (some ⟨b,o,Option.none⟩) lo c=some ⟨b,o+lo*La.k,Option.none⟩:=by
   unfold subA
   rw[if_neg (by omega),Option.map_some,Lay.add_at]
  rw[hA]
  exact⟨hle,by omega,(h.rd.drop lo).take (hi-lo),(fun e=>by cases e),hft⟩
theorem Sls.drop{w:World}{A:Option Addr}{n c:Nat}{l:List α}(h:Sls La F w A n c l){lo:Nat}(h2:lo≤n):Sls La F w (subA La.k A lo c) (n-lo) (c-lo) (l.drop lo):=by
 have h3:=h.sub h2 (Nat.le_refl n)
 rw[List.take_of_length_le (by rw[List.length_drop,h.len];exact Nat.le_refl _)] at h3
 exact h3
end
section
variable {P:Program}{α:Type}(La:Lay P α){o:Oper}{a:Act}{w:World}
theorem Lay.elem:P.elem La.t=La.e:=by simp[Program.elem,La.und]
theorem Lay.und':P.underlying La.t=some (.slice (P.elem La.t)):=by rw[La.elem];exact La.und
theorem Lay.size_run(w:World):(sizeOf (P.elem La.t)).run P w=.ok La.k w:=by
 rw[La.elem]
 obtain⟨i0,hi,hz0,hz1,hz2⟩:=info_parts La.info
 simp[sizeOf,typeInfo,hi,hz1]
theorem exec_sls_h{A:Option Addr}{n c hi:Nat}(x q:Operand)(ho:o.op=.slice La.t x none (some q) none)(hx:a.eval x=.slice A n c)(hq:a.eval q=.int .i64 (hi:Int))(h2:hi≤c):
  (execOp a.eval o).run P w=.ok (.value (.slice A hi c)) w:=by
 unfold execOp
 simp only[ho,Option.map_some,Option.map_none,hx,hq]
 have h:=run_sliceAt_slice (w:=w) La.t (.slice A n c) none (some (.int .i64 (hi:Int))) none La.und'
 rw[run_slice_h w La.t A n c La.und' .i64 (hi:Int) (by omega) (by omega),La.size_run] at h
 simp[h,Result.andThen,sliced]
 intro _
 cases A<;>simp[Addr.add]
theorem exec_slx{b off n c i:Nat}(x q:Operand)(ho:o.op=.indexAddr La.t x q)(hx:a.eval x=.slice (some ⟨b,off,none⟩) n c)(hq:a.eval q=.int .i64 (i:Int))(h:i<n):
  (execOp a.eval o).run P w=.ok (.value (.pointer (some ⟨b,off+i*La.k,none⟩))) w:=by
 unfold execOp
 simp only[ho,hx,hq]
 have h1:=run_indexAt_slice (w:=w) La.t ⟨b,off,none⟩ n c .i64 (i:Int) La.und'
 rw[La.size_run] at h1
 have h2:(0:Int)≤(i:Int)∧(i:Int)<(n:Int):=by omega
 simp[h1,h2,h,Result.andThen,Lay.add_at]
theorem exec_sls_l{A:Option Addr}{n c lo:Nat}(x p:Operand)(ho:o.op=.slice La.t x (some p) none none)(hx:a.eval x=.slice A n c)(hp:a.eval p=.int .i64 (lo:Int))(h1:lo≤n):
  (execOp a.eval o).run P w=.ok (.value (.slice (subA La.k A lo c) (n-lo) (c-lo))) w:=by
 unfold execOp
 simp only[ho,Option.map_some,Option.map_none,hx,hp]
 have h:=run_sliceAt_slice (w:=w) La.t (.slice A n c) (some (.int .i64 (lo:Int))) none none La.und'
 rw[run_slice_l w La.t A n c La.und' .i64 (lo:Int) (by omega) (by omega),La.size_run] at h
 simp[h,Result.andThen,sliced,subA]
theorem exec_slv{b off:Nat}{x:α}{fs:Array Field}(p:Operand)(ho:o.op=.load La.e p)(hx:a.eval p=.pointer (some ⟨b,off,none⟩))(hs:P.underlying La.e=some (.struct fs))(hc:∀j v,(La.f x)[j]?=some v→w.cell? ⟨b,off+j,none⟩=some v):
  (execOp a.eval o).run P w=.ok (.value (.agg (La.f x).toArray)) w:=by
 obtain⟨i0,hi,hz0,hz1,hz2⟩:=info_parts La.info
 have hr:w.rangeAt b off (La.f x):=fun j v hj=>hc j v hj
 have h:=run_loadVar_mid (P:=P) w b off La.e (La.f x) _ hr hs rfl (by rw[hi,La.len];simp[hz1])
 unfold execOp
 simp only[ho,hx,Instr.loadAt,Instr.sureAddr,Sem.run_bind,Sem.run_pure,Result.andThen_ok,h]
end
end
section
open Go.RowKit
section
variable {P:Program}{α:Type}(La:Lay P α){b0:Nat}{w0 w:World}{L:List (Nat×TypeId×Array Value)}{R:List RowE}{ops:Array Oper}{rest:List Oper}{o:Oper}{a:Act}{Q:Exit→Act→World→Prop}{K:Act→World→Prop}{E:Prop}{g:Nat}
theorem Lay.run_alloc(w:World):(Instr.alloc La.e true (.tuple #[])).run P w=.ok (.pointer (some ⟨w.heap.size,0,none⟩)) (w.alloc (.cells La.z.cells La.e)):=by
 obtain⟨i0,hi,hz0,hz1,hz2⟩:=info_parts La.info
 simp[Instr.alloc,zeroValue,typeInfo,hi,hz0,newVar,newRow]
theorem wpList_ak(HK:Hid (Kn b0 w0 w L R))(hgd:o.guard=none)(ho:o.op=.alloc La.e)
  (h:∀w' g,Hid (Kn b0 w0 w' (L++[(g,La.e,La.z.cells)]) R)→wpList P ops Q rest (a.put o.dst (.pointer (some ⟨g,0,none⟩))) w'):wpList P ops Q (o::rest) a w:=
 wpList_plain hgd fun K hK=>by
  have h4:=h _ w.heap.size (zH (HK.out.alloc La.e La.z.cells))
  unfold Oper.wp execOp
  simp only[ho,Sem.run_bind,Sem.run_pure,La.run_alloc,Result.andThen_ok]
  exact hK _ _ h4
theorem Lay.size_info:(P.info? La.e).map (·.size)=some La.k:=by
 obtain⟨i0,hi,hz0,hz1,hz2⟩:=info_parts La.info
 rw[hi];simp[hz1]
theorem Lay.all_one(p:α):(La.f p).toArray.all (·.oneCell')=true:=by
 rw[List.all_toArray,List.all_eq_true]
 exact La.one p
theorem wpList_st{p2:α}{cs:Array Value}(HK:Hid (Kn b0 w0 w L R))(i:Nat)(hgd:o.guard=none)(p q:Operand)(ho:o.op=.store La.e p q)(hL:L[i]?=some (g,La.e,cs))(hcs:cs.size=La.k)(hx:a.eval p=.pointer (some ⟨g,0,none⟩))(hy:a.eval q=.agg (La.f p2).toArray)
  (h:∀w',Hid (Kn b0 w0 w' (L.set i (g,La.e,(La.f p2).toArray)) R)→wpList P ops Q rest (a.put o.dst undef) w'):wpList P ops Q (o::rest) a w:=
 wpList_ss HK i hgd _ p q ho hL hx hy (by rw[hcs];simp[La.len]) (by rw[La.size_info];simp[La.len]) (La.all_one p2) fun w' h1 h2=>h w' (by
  have e:putCells cs 0 (La.f p2).toArray.toList=(La.f p2).toArray:=by
   rw[putCells_all (by simp[hcs,La.len]),Array.toArray_toList]
  rw[e] at h1
  exact h1)
theorem step_st{p2:α}{cs:Array Value}(HK:Hid (Kn b0 w0 w L R))(i:Nat)(hgd:o.guard=none)(p q:Operand)(ho:o.op=.store La.e p q)(hL:L[i]?=some (g,La.e,cs))(hcs:cs.size=La.k)(hx:a.eval p=.pointer (some ⟨g,0,none⟩))(hy:a.eval q=.agg (La.f p2).toArray)
  (h:∀w',Hid (Kn b0 w0 w' (L.set i (g,La.e,(La.f p2).toArray)) R)→K (a.put o.dst undef) w'):if Region.wanted o (yielded ops a.tmps)=true then Oper.wp P o a w K Q else E:=
 step_ss HK i hgd _ p q ho hL hx hy (by rw[hcs];simp[La.len]) (by rw[La.size_info];simp[La.len]) (La.all_one p2) fun w' h1 h2=>h w' (by
  have e:putCells cs 0 (La.f p2).toArray.toList=(La.f p2).toArray:=by
   rw[putCells_all (by simp[hcs,La.len]),Array.toArray_toList]
  rw[e] at h1
  exact h1)
theorem kexec_ld{p:α}{fs:Array Field}(hs:P.underlying La.e=some (.struct fs))(HK:Hid (Kn b0 w0 w L R))(i:Nat)(x:Operand)(ho:o.op=.load La.e x)(hL:L[i]?=some (g,La.e,(La.f p).toArray))(hx:a.eval x=.pointer (some ⟨g,0,none⟩)):
  (execOp a.eval o).run P w=.ok (.value (.agg (La.f p).toArray)) w:=
 kexec_ls HK _ x ho i hL hx (La.f p).toArray (fun j _=>by rw[Nat.zero_add]) hs (by rw[La.size_info];simp[La.len])
theorem Lay.run_mk(w:World)(l:List α)(vs:List Value)(hv:vs.map (fun v=>v.cells.toList)=l.map La.f)(n:Nat)(hn:n=l.length)(hsm:n*La.k≤65536)(parts:Array (Nat×Value))(hp:parts.toList=(vs.zipIdx 0).map fun x=>(x.2,x.1)):
  (Instr.buildSlice La.t n parts).run P w=.ok (.slice (some ⟨w.heap.size,0,none⟩) n n) (w.alloc (.cells (La.flat l).toArray La.e)):=by
 obtain⟨i0,hi,hz0,hz1,hz2⟩:=info_parts La.info
 have hlen:vs.length=l.length:=by have:=congrArg List.length hv;simpa using this
 have hfl:(vs.flatMap fun v=>v.cells.toList)=La.flat l:=by
  unfold Lay.flat
  rw[List.flatMap_def,List.flatMap_def,hv]
 by_cases h0:l=[]
 ·subst h0
  have hvs:vs=[]:=List.length_eq_zero_iff.1 hlen
  subst hvs
  have hpp:parts=#[]:=Array.toList_inj.1 (by rw[hp];rfl)
  subst hpp
  obtain rfl:n=0:=hn
  simp[Instr.buildSlice,run_underlying La.und,sizeOf,typeInfo,hi,Instr.fill,newRow,Lay.flat]
  rw[show Array.range 0=#[] from Array.eq_empty_of_size_eq_zero (by simp),Array.map_empty]
 ·have hpos:0<l.length:=List.length_pos_iff.2 h0
  have hk:=La.pos
  have hne:¬n*i0.size=0:=by
   rw[hz1,hn]
   exact Nat.ne_of_gt (Nat.mul_pos hpos hk)
  refine Go.run_buildSlice w La.t La.e n parts _ i0 La.z La.und hi hz0 (by rw[hz1];omega) hne ?_
  rw[hp,hz1]
  have h1:∀v∈vs,v.cells.size=La.k:=fun v hvm=>by
   have:v.cells.toList∈l.map La.f:=by rw[← hv];exact List.mem_map.2 ⟨v,hvm,rfl⟩
   obtain⟨x,_,hx⟩:=List.mem_map.1 this
   rw[← La.len x,hx,Array.length_toList]
  rw[Great.fill_whole hk vs _ h1 (by simp[hlen,hn]),hfl]
theorem Kn.mkS(h:Kn b0 w0 w L R)(l:List α)(n:Nat)(hn:n=l.length)(hl:n≤65536):
  Kn b0 w0 (w.alloc (.cells (La.flat l).toArray La.e)) L (R++[row La (.slice (some ⟨w.heap.size,0,none⟩) n n) l]):=
 h.called ((Below.refl _ w).alloc (Nat.le_refl _) _) (Lay.Own.new w l _ _ _ _ rfl (Nat.le_refl _) rfl hn hn (by omega))
theorem kwp_mk(HK:Hid (Kn b0 w0 w L R))(l:List α)(n:Nat)(parts:Array (Nat×Operand))(ho:o.op=.buildSlice La.t n parts)(vs:List Value)(hp:(parts.map fun(i,x)=>(i,a.eval x)).toList=(vs.zipIdx 0).map fun x=>(x.2,x.1))(hv:vs.map (fun v=>v.cells.toList)=l.map La.f)(hn:n=l.length)(hsm:n*La.k≤65536)
  (h:∀w' g,Hid (Kn b0 w0 w' L (R++[row La (.slice (some ⟨g,0,none⟩) n n) l]))→Hid (Below w.heap.size w w')→K (a.put o.dst (.slice (some ⟨g,0,none⟩) n n)) w'):o.wp P a w K Q:=by
 have hle:n≤65536:=Nat.le_trans (Nat.le_mul_of_pos_right n La.pos) hsm
 have h4:=h _ w.heap.size (zH (HK.out.mkS La l n hn hle)) (zH ((Below.refl _ w).alloc (Nat.le_refl _) _))
 have hr:=La.run_mk w l vs hv n hn hsm _ hp
 unfold Oper.wp execOp
 simp only[ho,Sem.run_bind,Sem.run_pure,Result.andThen_ok,hr]
 exact h4
theorem wpList_mk0(HK:Hid (Kn b0 w0 w L R))(hgd:o.guard=none)(ho:o.op=.buildSlice La.t 0 #[])
  (h:∀w' g,Hid (Kn b0 w0 w' L (R++[row La (.slice (some ⟨g,0,none⟩) 0 0) []]))→wpList P ops Q rest (a.put o.dst (.slice (some ⟨g,0,none⟩) 0 0)) w'):wpList P ops Q (o::rest) a w:=
 wpList_plain hgd fun _ hK=>kwp_mk La HK [] 0 #[] ho [] (by simp) rfl rfl (by omega) fun w' g h1 _=>hK _ _ (h w' g h1)
theorem wpList_mk1{p:α}(HK:Hid (Kn b0 w0 w L R))(hk:La.k≤65536)(hgd:o.guard=none)(x:Operand)(ho:o.op=.buildSlice La.t 1 #[(0,x)]){v:Value}(hx:a.eval x=v)(hv:v.cells.toList=La.f p)
  (h:∀w' g,Hid (Kn b0 w0 w' L (R++[row La (.slice (some ⟨g,0,none⟩) 1 1) [p]]))→wpList P ops Q rest (a.put o.dst (.slice (some ⟨g,0,none⟩) 1 1)) w'):wpList P ops Q (o::rest) a w:=
 wpList_plain hgd fun _ hK=>kwp_mk La HK [p] 1 _ ho [v] (by simp[hx]) (by simp[hv]) rfl (by omega) fun w' g h1 _=>hK _ _ (h w' g h1)
theorem step_mk1{p:α}(HK:Hid (Kn b0 w0 w L R))(hk:La.k≤65536)(hgd:o.guard=none)(x:Operand)(ho:o.op=.buildSlice La.t 1 #[(0,x)]){v:Value}(hx:a.eval x=v)(hv:v.cells.toList=La.f p)
  (h:∀w' g,Hid (Kn b0 w0 w' L (R++[row La (.slice (some ⟨g,0,none⟩) 1 1) [p]]))→Hid (Below w.heap.size w w')→K (a.put o.dst (.slice (some ⟨g,0,none⟩) 1 1)) w'):if Region.wanted o (yielded ops a.tmps)=true then Oper.wp P o a w K Q else E:=by
 rw[if_pos (by simp[Region.wanted,hgd])]
 exact kwp_mk La HK [p] 1 _ ho [v] (by simp[hx]) (by simp[hv]) rfl (by omega) h
theorem step_more2(HK:Hid (Kn b0 w0 w L R))(j:Nat)(hgd:o.guard=none)(s x:Operand)(ho:o.op=.call { callee:=.builtin .append,args:=#[s,x],argTypes:=#[La.t,La.t] })
  {v:Value} {l:List α} (hR:R[j]?=some (row La v l)) (hs:a.eval s=v) (m:List α) {A:Option Addr} {n c B:Nat} (hx:a.eval x=.slice A n c) (hn:n=m.length) (hI:Hid (La.Reads w B A m∧(A=none→m=[])))
  (hl:Hid (l.length+m.length≤9223372036854775807∧(l.length+m.length)*La.bytes≤211106232532992))
  {N:Nat} (hN:Hid ((l++m).length=N)) (h:∀A' c' w',Hid (Kn b0 w0 w' L (R.set j (row La (.slice A' N c') (l++m))))→K (a.put o.dst (.slice A' N c')) w'):if Region.wanted o (yielded ops a.tmps)=true then Oper.wp P o a w K Q else E:=by
 rw[if_pos (by simp[Region.wanted,hgd])]
 exact kwp_more HK La j s x ho hR hs m hx hn hI hl hN h
structure Nest(La:Lay P α) where
 tt:TypeId
 und:P.underlying tt=some (.slice La.t)
 info:(P.info? La.t).map (fun i=>(i.zero,i.size))=some (some (.slice none 0 0),1)
theorem Nest.run(N:Nest La)(w:World)(vs:List Value)(hv:∀v∈vs,v.cells=#[v])(n:Nat)(hn:n=vs.length)(h0:0<n)(hsm:n≤65536)(parts:Array (Nat×Value))(hp:parts.toList=(vs.zipIdx 0).map fun x=>(x.2,x.1)):
  (Instr.buildSlice N.tt n parts).run P w=.ok (.slice (some ⟨w.heap.size,0,none⟩) n n) (w.alloc (.cells vs.toArray La.t)):=by
 have hi:=N.info
 cases hq:P.info? La.t with
 | none=>simp[hq] at hi
 | some i0=>
  simp only[hq,Option.map_some,Option.some.injEq,Prod.mk.injEq] at hi
  obtain⟨hz0,hz1⟩:=hi
  refine Go.run_buildSlice w N.tt La.t n parts _ i0 _ N.und hq hz0 (by rw[hz1];omega) (by rw[hz1];omega) ?_
  rw[hp,hz1]
  exact Great.fill_flat vs _ hv (by simp[hn])
theorem kwp_mks(N:Nest La)(HK:Hid (Kn b0 w0 w L R))(n:Nat)(parts:Array (Nat×Operand))(ho:o.op=.buildSlice N.tt n parts)(vs:List Value)(hp:(parts.map fun(i,x)=>(i,a.eval x)).toList=(vs.zipIdx 0).map fun x=>(x.2,x.1))(hv:∀v∈vs,v.cells=#[v])(hn:n=vs.length)(h0:0<n)(hsm:n≤65536)
  (h:∀w' g,Hid (Kn b0 w0 w' (L++[(g,La.t,vs.toArray)]) R)→Hid (Below w.heap.size w w')→K (a.put o.dst (.slice (some ⟨g,0,none⟩) n n)) w'):o.wp P a w K Q:=by
 have h4:=h _ w.heap.size (zH (HK.out.alloc La.t vs.toArray)) (zH ((Below.refl _ w).alloc (Nat.le_refl _) _))
 have hr:=N.run La w vs hv n hn h0 hsm _ hp
 unfold Oper.wp execOp
 simp only[ho,Sem.run_bind,Sem.run_pure,Result.andThen_ok,hr]
 exact h4
variable (N:Nest La){A A2 A3:Option Addr}{n c n2 c2 n3 c3:Nat}
theorem step_mks2(HK:Hid (Kn b0 w0 w L R))(hgd:o.guard=none)(x y:Operand)(ho:o.op=.buildSlice N.tt 2 #[(0,x),(1,y)])(hx:a.eval x=.slice A n c)(hy:a.eval y=.slice A2 n2 c2)
  (h:∀w' g,Hid (Kn b0 w0 w' (L++[(g,La.t,#[.slice A n c,.slice A2 n2 c2])]) R)→Hid (Below w.heap.size w w')→K (a.put o.dst (.slice (some ⟨g,0,none⟩) 2 2)) w'):if Region.wanted o (yielded ops a.tmps)=true then Oper.wp P o a w K Q else E:=by
 rw[if_pos (by simp[Region.wanted,hgd])]
 exact kwp_mks La N HK 2 _ ho [.slice A n c,.slice A2 n2 c2] (by simp[hx,hy]) (by simp[Value.cells]) rfl (by decide) (by decide) h
end
def IsLg{P:Program}{α:Type}(La:Lay P α)(r:List α)(w:World)(e:Ending)(w':World):Prop:=∃A n c,e=.returned (.slice A n c)∧La.Own w.heap.size w' (.slice A n c) r∧Below w.heap.size w w'
def OwnOr{P:Program}{α:Type}(La:Lay P α)(b:Nat)(w:World)(A:Option Addr)(n c:Nat)(l:List α)(A':Option Addr)(n' c':Nat)(r:List α):Prop:=La.Own b w (.slice A' n' c') r∨(A'=A∧n'=n∧c'=c∧r=l)
section
variable {P:Program}{α:Type}{La:Lay P α}{F:α→Prop}{b0:Nat}{w0 w w':World}{L:List (Nat×TypeId×Array Value)}{R:List RowE}
structure Pce(α:Type) where
 A:Option Addr
 n:Nat
 c:Nat
 l:List α
def catP{α:Type}(ps:List (Pce α)):List α:=ps.flatMap (·.l)
theorem catP_more{α:Type}{ps:List (Pce α)}{k:Nat}{p:Pce α}(h:ps[k]?=some p):catP (ps.take (k+1))=catP (ps.take k)++p.l:=by
 unfold catP
 rw[Lay.take_succ h,List.flatMap_append,List.flatMap_cons,List.flatMap_nil,List.append_nil]
theorem catP_le{α:Type}(ps:List (Pce α))(k:Nat):(catP (ps.take k)).length≤(catP ps).length:=by
 have h:catP ps=catP (ps.take k)++catP (ps.drop k):=by unfold catP;rw[← List.flatMap_append,List.take_append_drop]
 rw[h,List.length_append];omega
def Joins(P:Program)(f:FuncId)(La:Lay P α)(F:α→Prop):Prop:=∀(g m:Nat) (ps:List (Pce α)) (w:World),ps.length=m→m≤8→g<w.heap.size→(∀i p,ps[i]?=some p→w.cell? ⟨g,i,none⟩=some (.slice p.A p.n p.c))→
 (∀p∈ps,Sls La F w p.A p.n p.c p.l)→(catP ps).length*La.bytes≤140737488355328→Calls P f #[.slice (some ⟨g,0,none⟩) m m] w (IsLg La (catP ps) w)
variable {f:FuncId}{g:Nat}{A1 A2 A3:Option Addr}{n1 c1 n2 c2 n3 c3:Nat}{l1 l2 l3:List α}
theorem Joins.one(J:Joins P f La F)(HK:Hid (Kn b0 w0 w L R))(i:Nat)(hL:L[i]?=some (g,La.t,#[.slice A1 n1 c1]))(h1:Sls La F w A1 n1 c1 l1):
  Calls P f #[.slice (some ⟨g,0,none⟩) 1 1] w (IsLg La l1 w):=by
 have h:=J g 1 [⟨A1,n1,c1,l1⟩] w rfl (by decide) (HK.out.blk i hL).lt (fun j p hp=>by
  match j,hp with
  | 0,hp=>simp at hp;subst hp;exact HK.out.cell i hL 0 rfl) (fun p hp=>by
   rw[List.mem_singleton] at hp;subst hp;exact h1) (by
   show(l1++[]).length*_≤_
   rw[List.append_nil];exact h1.fit.big)
 have e:catP [(⟨A1,n1,c1,l1⟩:Pce α)]=l1:=by show l1++[]=l1;rw[List.append_nil]
 rw[e] at h
 exact h
theorem Joins.two(J:Joins P f La F)(HK:Hid (Kn b0 w0 w L R))(i:Nat)(hL:L[i]?=some (g,La.t,#[.slice A1 n1 c1,.slice A2 n2 c2]))(h1:Sls La F w A1 n1 c1 l1)(h2:Sls La F w A2 n2 c2 l2)(ht:(n1+n2)*La.bytes≤140737488355328):
  Calls P f #[.slice (some ⟨g,0,none⟩) 2 2] w (IsLg La (l1++l2) w):=by
 have h:=J g 2 [⟨A1,n1,c1,l1⟩,⟨A2,n2,c2,l2⟩] w rfl (by decide) (HK.out.blk i hL).lt (fun j p hp=>by
  match j,hp with
  | 0,hp=>simp at hp;subst hp;exact HK.out.cell i hL 0 rfl
  | 1,hp=>simp at hp;subst hp;exact HK.out.cell i hL 1 rfl) (fun p hp=>by
   simp only[List.mem_cons,List.not_mem_nil,or_false] at hp
   rcases hp with rfl|rfl
   ·exact h1
   ·exact h2) (by
   show(l1++(l2++[])).length*_≤_
   rw[List.append_nil,List.length_append,h1.len,h2.len];exact ht)
 have e:catP [(⟨A1,n1,c1,l1⟩:Pce α),⟨A2,n2,c2,l2⟩]=l1++l2:=by show l1++(l2++[])=_;rw[List.append_nil]
 rw[e] at h
 exact h
theorem same_at{α:Type}[DecidableEq α]{a b:List α}{n:Nat}(ha:a.length=n)(hb:b.length=n):(∀i x y,i<n→a[i]?=some x→b[i]?=some y→¬x=y→decide (a=b)=false)∧((∀i,i<n→a[i]?=b[i]?)→decide (a=b)=true):=by
 refine⟨fun i x y hi hx hy hne=>decide_eq_false fun h=>?_,fun h=>decide_eq_true (List.ext_getElem? fun i=>?_)⟩
 ·subst h
  rw[hx] at hy
  injection hy with hy
  exact hne hy
 ·by_cases hi:i<n
  ·exact h i hi
  ·rw[List.getElem?_eq_none (by omega),List.getElem?_eq_none (by omega)]
theorem grow_ok{l m:List α}{N:Nat}(h:Hid ((l++m).length=N))(hB:N*La.bytes≤211106232532992)(hN:N≤9223372036854775807):Hid (l.length+m.length≤9223372036854775807∧(l.length+m.length)*La.bytes≤211106232532992):=by
 have e:=h.out
 rw[List.length_append] at e
 exact zH ⟨by rw[e];exact hN,by rw[e];exact hB⟩
end
end
section
open Go.ChangeShapes Go.WideShapes Go.Deep Go.RowKit
theorem info_val:(Tryz.prog.info? 26).map (fun i=>(i.zero,i.size,i.bytes))=some (some (Value.agg #[.int .i64 0,.int .i64 0,.int .u64 0,.string ⟨#[]⟩]),4,40):=by kernel_rfl
def vaLay:Lay Tryz.prog Val.V where
 t:=58
 e:=26
 k:=4
 bytes:=40
 z:=.agg #[.int .i64 0,.int .i64 0,.int .u64 0,.string ⟨#[]⟩]
 f:=vaL
 len:=fun _=>rfl
 one:=fun x u hu=>by
  unfold vaL at hu
  simp only[List.mem_cons,List.not_mem_nil,or_false] at hu
  rcases hu with rfl|rfl|rfl|rfl<;>rfl
 und:=Tryz.underlying58
 info:=info_val
 zs:=rfl
 pos:=by decide
 small:=by decide
def vF(v:Val.V):Prop:=v.f<18446744073709551616
section
variable {w:World}{o:Oper}{a:Act}
theorem exec_lva{b off:Nat}{k n:Int}{f:Nat}{s:ByteArray}(p:Operand)(ho:o.op=.load 26 p)(hx:a.eval p=.pointer (some ⟨b,off,none⟩))(hc:∀j v,(vaL ⟨k,n,f,s⟩)[j]?=some v→w.cell? ⟨b,off+j,none⟩=some v):
  (execOp a.eval o).run Tryz.prog w=.ok (.value (.agg #[.int .i64 k,.int .i64 n,.int .u64 (f:Int),.string s])) w:=
 exec_slv vaLay (x:=⟨k,n,f,s⟩) p ho hx Tryz.underlying26 hc
theorem exec_lvk{b off:Nat}{k n:Int}{f:Nat}{s:ByteArray}(p:Operand)(ho:o.op=.load 3 p)(hx:a.eval p=.pointer (some ⟨b,off,none⟩))(hc:∀j v,(vaL ⟨k,n,f,s⟩)[j]?=some v→w.cell? ⟨b,off+j,none⟩=some v):
  (execOp a.eval o).run Tryz.prog w=.ok (.value (.int .i64 k)) w:=
 exec_cell p ho hx (hc 0 _ rfl) Tryz.underlying3 rfl
end
section
variable {H:Type}{enc:TypeId×Value→H}{W:World}{base:Nat}
theorem bytes_val:Tryz.prog.bytesOf 26=40:=by kernel_rfl
theorem opens_vas:Opens enc vaLay (fun v _=>vF v):=fun W n cs x ht=>by
 obtain⟨v,h1,h2⟩:=opens_val (enc:=enc) W n cs x ht
 exact⟨v,h1,h2⟩
theorem Lift.Given.vals{ts:List TypeId}{args:List Value}{ds:List (DataW H)}{before:List MemPlace}(h:Lift.Given enc Tryz.prog (58::ts) W base args ds before):
  ∃(A:Option Addr) (c:Nat) (l:List Val.V) (vs:List Value) (d:DataW H) (ds':List (DataW H)) (q:List MemPlace),args=.slice A l.length c::vs∧ds=d::ds'∧Sls vaLay vF W A l.length c l∧Lift.Given enc Tryz.prog ts W base vs ds' q:=by
 obtain⟨A,c,l,vs,d,ds',q,h1,h2,h3,h4,h5,h6,_,h8,h9⟩:=h.things (L:=vaLay) opens_vas cells_val bytes_val
 have hb:l.length*40≤reachBytes:=h6
 refine⟨A,c,l,vs,d,ds',q,h1,h2,⟨rfl,h8,h3,h4,fun x hx=>?_,?_⟩,h9⟩
 ·obtain⟨dx,g,_⟩:=h5 x hx
  exact g
 ·have:reachBytes=140737488351232:=rfl
  show l.length*40≤_
  omega
end
end
end Go.Proofs.YtieoeendnccafaaGreat
