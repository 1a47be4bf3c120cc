/- Slices of things of one kind that were handed in, or are the call's own: what is known of them; places in them, parts of them. No condition but those named. -/
import Derived.Test.YtddpmlcpfmmbeaaGreatTk
import Derived.Test.YtddpmlcpfmmbeaaGreatKAB
import Derived.Test.YtddpmlcpfmmbeaaGreatKAD
import Derived.Test.YtddpmlcpfmmbeaaGreatKAA
import Derived.Deep.RegionWith
import Derived.Deep.RegionHeld3
import Derived.Deep.Draws
import Derived.Lib.Hide
import Derived.Test.YtddpmlcpfmmbeaaGreatRows
import Derived.KernelRfl
set_option linter.unusedSimpArgs false
set_option linter.unusedVariables false
set_option maxRecDepth 100000
set_option maxHeartbeats 25600000
namespace Go.Proofs.YtddpmlcpfmmbeaaGreat
section
open Go.RowKit
section
variable {w:World}{ops:Array Oper}{rest:List Oper}{o:Oper}{a:Act}{Q:Exit→Act→World→Prop}
theorem veq_all(v u:Val.V):decide (v=u)=(decide (v.k=u.k)&&decide (v.n=u.n)&&decide ((v.f:Int)=(u.f:Int))&&decide (v.s.toList=u.s.toList)):=by
 obtain⟨k,n,f,s⟩:=v
 obtain⟨k',n',f',s'⟩:=u
 have e:(⟨k,n,f,s⟩:Val.V)=⟨k',n',f',s'⟩↔(k=k'∧n=n'∧f=f'∧s=s'):=by simp
 show decide ((⟨k,n,f,s⟩:Val.V)=⟨k',n',f',s'⟩)=(decide (k=k')&&decide (n=n')&&decide ((f:Int)=(f':Int))&&decide (s.toList=s'.toList))
 have e2:((f:Int)=(f':Int))↔f=f':=by omega
 have e4:s.toList=s'.toList↔s=s':=Val.str_iff.symm
 by_cases h:(⟨k,n,f,s⟩:Val.V)=⟨k',n',f',s'⟩
 ·obtain⟨rfl,rfl,rfl,rfl⟩:=e.1 h
  simp
 ·have h':=fun hh=>h (e.2 hh)
  rw[decide_eq_false h]
  by_cases h1:k=k'
  ·by_cases h2:n=n'
   ·by_cases h3:f=f'
    ·have h4:¬s=s':=fun h4=>h' ⟨h1,h2,h3,h4⟩
     rw[decide_eq_false (fun e5=>h4 (e4.1 e5))];simp
    ·rw[decide_eq_false (p:=(f:Int)=(f':Int)) (fun e5=>h3 (e2.1 e5))];simp
   ·rw[decide_eq_false h2];simp
  ·rw[decide_eq_false h1];simp
theorem exec_veq{v u:Val.V}{b:Bool}(p q:Operand)(ho:o.op=.binOp .eql 26 p q 26)(hx:a.eval p=.agg #[.int .i64 v.k,.int .i64 v.n,.int .u64 (v.f:Int),.string v.s])(hy:a.eval q=.agg #[.int .i64 u.k,.int .i64 u.n,.int .u64 (u.f:Int),.string u.s])(hb:decide (v=u)=b):
  (execOp a.eval o).run Tryz.prog w=.ok (.value (.bool b)) w:=by
 rw[veq_all] at hb
 subst hb
 unfold execOp
 simp only[ho,hx,hy]
 go_simp
 by_cases h1:v.k=u.k<;>by_cases h2:v.n=u.n<;>by_cases h3:(v.f:Int)=(u.f:Int)<;>by_cases h4:v.s.toList=u.s.toList<;>simp[h1,h2,h3,h4]
theorem exec_vne{v u:Val.V}{b:Bool}(p q:Operand)(ho:o.op=.binOp .neq 26 p q 26)(hx:a.eval p=.agg #[.int .i64 v.k,.int .i64 v.n,.int .u64 (v.f:Int),.string v.s])(hy:a.eval q=.agg #[.int .i64 u.k,.int .i64 u.n,.int .u64 (u.f:Int),.string u.s])(hb:(!decide (v=u))=b):
  (execOp a.eval o).run Tryz.prog w=.ok (.value (.bool b)) w:=by
 rw[veq_all] at hb
 subst hb
 unfold execOp
 simp only[ho,hx,hy]
 go_simp
 by_cases h1:v.k=u.k<;>by_cases h2:v.n=u.n<;>by_cases h3:(v.f:Int)=(u.f:Int)<;>by_cases h4:v.s.toList=u.s.toList<;>simp[h1,h2,h3,h4]
end
theorem ret_ve{fn:Func}{R:Ending→World→Prop}{a:Act}{w:World}{B:Nat}{k n:Int}{f:Nat}{s:ByteArray}{u:Value}{q q2:Tmp}(hf:fn.results=#[.cell q 26,.tmp q2])(h2:a.tmps[q]?=some (.pointer (some ⟨B,0,none⟩)))(h3:a.tmps[q2]?=some u)(hd:a.defers=[])(hb:Blk w B 26 (vC k n f s))
  (hR:R (.returned (.tuple #[.agg #[.int .i64 k,.int .i64 n,.int .u64 (f:Int),.string s],u])) w):bodyPost Tryz.prog fn R Exit.ret a w:=by
 refine bodyPost_ret (v:=.tuple #[.agg #[.int .i64 k,.int .i64 n,.int .u64 (f:Int),.string s],u]) ?_ hd hR
 have h:(loadVar 26 ⟨B,0,none⟩).run Tryz.prog w=.ok (.agg (vC k n f s)) w:=run_loadVar_row (P:=Tryz.prog) w B _ _ _ (0,0) _ hb Tryz.underlying26 rfl info_v4
 unfold vC at h
 simp[results,hf,asAddr,Sem.run_bind,h2,h3,h]
theorem ret_pve{fn:Func}{R:Ending→World→Prop}{a:Act}{w:World}{B:Nat}{k n:Int}{f:Nat}{s:ByteArray}{u z:Value}{q q2 q3:Tmp}(hf:fn.results=#[.tmp q2,.cell q 26,.tmp q3])(h2:a.tmps[q]?=some (.pointer (some ⟨B,0,none⟩)))(h3:a.tmps[q2]?=some u)(h4:a.tmps[q3]?=some z)(hd:a.defers=[])(hb:Blk w B 26 (vC k n f s))
  (hR:R (.returned (.tuple #[u,.agg #[.int .i64 k,.int .i64 n,.int .u64 (f:Int),.string s],z])) w):bodyPost Tryz.prog fn R Exit.ret a w:=by
 refine bodyPost_ret (v:=.tuple #[u,.agg #[.int .i64 k,.int .i64 n,.int .u64 (f:Int),.string s],z]) ?_ hd hR
 have h:(loadVar 26 ⟨B,0,none⟩).run Tryz.prog w=.ok (.agg (vC k n f s)) w:=run_loadVar_row (P:=Tryz.prog) w B _ _ _ (0,0) _ hb Tryz.underlying26 rfl info_v4
 unfold vC at h
 simp[results,hf,asAddr,Sem.run_bind,h2,h3,h4,h]
theorem step_sv{b0:Nat}{w0 w:World}{L:List (Nat×TypeId×Array Value)}{R:List RowE}{ops:Array Oper}{o:Oper}{a:Act}{Q:Exit→Act→World→Prop}{K:Act→World→Prop}{E:Prop}{g:Nat}{k n k2 n2:Int}{f f2:Nat}{s s2:ByteArray}(HK:Hid (Kn b0 w0 w L R))(i:Nat)(hgd:o.guard=none)(p q:Operand)(ho:o.op=.store 26 p q)(hL:L[i]?=some (g,26,vC k n f s))(hx:a.eval p=.pointer (some ⟨g,0,none⟩))(hy:a.eval q=.agg #[.int .i64 k2,.int .i64 n2,.int .u64 (f2:Int),.string s2])
  (h:∀w',Hid (Kn b0 w0 w' (L.set i (g,26,vC k2 n2 f2 s2)) R)→K (a.put o.dst undef) w'):if Region.wanted o (yielded ops a.tmps)=true then Oper.wp Tryz.prog o a w K Q else E:=
 step_ss HK i hgd _ p q ho hL hx hy (by show 4≤4;decide) info_v4 (by simp[Value.oneCell']) fun w' h1 _=>h w' (by
  have e:putCells (vC k n f s) 0 (#[Value.int .i64 k2,.int .i64 n2,.int .u64 (f2:Int),.string s2]:Array Value).toList=vC k2 n2 f2 s2:=by
   show putCells (vC k n f s) 0 (vC k2 n2 f2 s2).toList=vC k2 n2 f2 s2
   rw[putCells_all (vs:=(vC k2 n2 f2 s2).toList) (cs:=vC k n f s) rfl,Array.toArray_toList]
  rw[e] at h1
  exact h1)
end
section
open Go.ChangeShapes Go.WideShapes Go.Deep Go.RowKit
section
variable {H:Type}{enc:TypeId×Value→H}{W:World}{base:Nat}{α:Type}
def OpensT(enc:TypeId×Value→H)(e:TypeId)(f:α→List Value)(Good:α→Prop):Prop:=
 ∀(W:World) (n:Nat) (cs:List Value) (x:DataW H×List MemPlace),DataW.trod enc Tryz.prog W 0 (fun _=>true) true n e cs=some x→∃it:α,cs=f it∧Good it
theorem Lift.Given.one{e:TypeId}{f:α→List Value}{Good:α→Prop}(hop:OpensT enc e f Good){fs:Array Field}(hs:Tryz.prog.underlying e=some (.struct fs))
  {ts:List TypeId} {args:List Value} {ds:List (DataW H)} {before:List MemPlace} (h:Lift.Given enc Tryz.prog (e::ts) W base args ds before) :
  ∃(x:α) (vs:List Value) (d:DataW H) (ds':List (DataW H)) (q:List MemPlace),args=.agg (f x).toArray::vs∧ds=d::ds'∧Good x∧Lift.Given enc Tryz.prog ts W base vs ds' q:=by
 obtain⟨v,vs,d,ds',p,q,rfl,rfl,rfl,h0,hok,_,hw,hg⟩:=h.cons
 obtain⟨fuel,h0⟩:=h0
 obtain⟨cs,rfl,hsz⟩:=okWide_struct hs hok
 obtain⟨it,hit,hgd⟩:=hop W _ _ _ h0
 refine⟨it,vs,d,ds',q,?_,rfl,hgd,hg⟩
 have hc:cs.toList=f it:=by simpa [Value.cells] using hit
 rw[← hc]
end
end
section
open Go.ChangeShapes Go.WideShapes Go.Deep Go.RowKit
def vaL(v:Val.V):List Value:=[.int .i64 v.k,.int .i64 v.n,.int .u64 (v.f:Int),.string v.s]
section
variable {H:Type}{enc:TypeId×Value→H}{W:World}{base:Nat}{α:Type}
theorem cells_val:Tryz.prog.cellsOf 26=4:=by kernel_rfl
theorem opens_val:OpensT enc 26 vaL (fun v=>v.f<18446744073709551616):=fun W n cs x ht=>by
 obtain⟨ys,m,_,hx,hlen,hyl,hf⟩:=DataW.trod_struct Tryz.underlying26 ht
 have hlen:cs.length=Tryz.prog.cellsOf 26:=hlen
 rw[cells_val] at hlen
 match cs,hlen,ys,hyl with
 | [v0,v1,v2,v3],_,[y0,y1,y2,y3],_=>
  have f0:=hf 0 _ rfl
  have f1:=hf 1 _ rfl
  have f2:=hf 2 _ rfl
  have f3:=hf 3 _ rfl
  simp only[List.getElem?_cons_zero,List.getElem?_cons_succ] at f0 f1 f2 f3
  obtain⟨a0,e0,_,_⟩:=DataW.trod_int Tryz.underlying3 f0
  obtain⟨a1,e1,_,_⟩:=DataW.trod_int Tryz.underlying3 f1
  obtain⟨a2,e2,_,w2⟩:=DataW.trod_int Tryz.underlying24 f2
  obtain⟨a3,e3,_,_⟩:=DataW.trod_string Tryz.underlying9 f3
  cases e0;cases e1;cases e2;cases e3
  obtain⟨u,rfl,hu⟩:=u64_lt w2
  exact⟨⟨a0,a1,u,a3⟩,rfl,hu⟩
theorem Lift.Given.val{ts:List TypeId}{args:List Value}{ds:List (DataW H)}{before:List MemPlace}(h:Lift.Given enc Tryz.prog (26::ts) W base args ds before):
  ∃(x:Val.V) (vs:List Value) (d:DataW H) (ds':List (DataW H)) (q:List MemPlace),args=.agg (vaL x).toArray::vs∧ds=d::ds'∧x.f<18446744073709551616∧Lift.Given enc Tryz.prog ts W base vs ds' q:=h.one opens_val Tryz.underlying26
end
end
section
open Go.ChangeShapes Go.WideShapes Go.Deep Go.RowKit
def rpA(p:Sto.Rp):Array Value:=#[.int .i64 p.e,.int .i64 p.v.k,.int .i64 p.v.n,.int .u64 (p.v.f:Int),.string p.v.s]
theorem info_rp:(Tryz.prog.info? 28).map (·.size)=some 5:=by kernel_rfl
section
variable {b0:Nat}{w0 w:World}{L:List (Nat×TypeId×Array Value)}{R:List RowE}{ops:Array Oper}{rest:List Oper}{o:Oper}{a:Act}{Q:Exit→Act→World→Prop}{K:Act→World→Prop}{E:Prop}{g:Nat}{p q:Sto.Rp}
theorem wpList_arp(HK:Hid (Kn b0 w0 w L R))(hgd:o.guard=none)(ho:o.op=.alloc 28)
  (h:∀w' g,Hid (Kn b0 w0 w' (L++[(g,28,rpA Sto.rz)]) R)→wpList Tryz.prog ops Q rest (a.put o.dst (.pointer (some ⟨g,0,none⟩))) w'):wpList Tryz.prog ops Q (o::rest) a w:=
 wpList_plain hgd fun K hK=>by
  have h4:=h _ w.heap.size (zH (HK.out.alloc _ _))
  unfold Oper.wp execOp
  simp only[ho]
  unfold rpA Sto.rz at h4
  go_simp
  exact hK _ _ h4
theorem kwp_srp(HK:Hid (Kn b0 w0 w L R))(i:Nat)(r s:Operand)(ho:o.op=.store 28 r s)(hL:L[i]?=some (g,28,rpA p))(hx:a.eval r=.pointer (some ⟨g,0,none⟩))(hy:a.eval s=.agg (rpA q))
  (h:∀w',Hid (Kn b0 w0 w' (L.set i (g,28,rpA q)) R)→K (a.put o.dst undef) w'):o.wp Tryz.prog a w K Q:=
 kwp_ss HK _ r s ho i hL hx hy (by show 5≤5;decide) info_rp (by simp[rpA,Value.oneCell']) fun w' h1 _=>h w' (by
  have e:putCells (rpA p) 0 (rpA q).toList=rpA q:=by rw[putCells_all (vs:=(rpA q).toList) (cs:=rpA p) rfl,Array.toArray_toList]
  rw[e] at h1
  exact h1)
theorem wpList_srp(HK:Hid (Kn b0 w0 w L R))(i:Nat)(hgd:o.guard=none)(r s:Operand)(ho:o.op=.store 28 r s)(hL:L[i]?=some (g,28,rpA p))(hx:a.eval r=.pointer (some ⟨g,0,none⟩))(hy:a.eval s=.agg (rpA q))
  (h:∀w',Hid (Kn b0 w0 w' (L.set i (g,28,rpA q)) R)→wpList Tryz.prog ops Q rest (a.put o.dst undef) w'):wpList Tryz.prog ops Q (o::rest) a w:=
 wpList_plain hgd fun _ hK=>kwp_srp HK i r s ho hL hx hy fun w' h1=>hK _ _ (h w' h1)
theorem step_srp(HK:Hid (Kn b0 w0 w L R))(i:Nat)(hgd:o.guard=none)(r s:Operand)(ho:o.op=.store 28 r s)(hL:L[i]?=some (g,28,rpA p))(hx:a.eval r=.pointer (some ⟨g,0,none⟩))(hy:a.eval s=.agg (rpA q))
  (h:∀w',Hid (Kn b0 w0 w' (L.set i (g,28,rpA q)) R)→K (a.put o.dst undef) w'):if Region.wanted o (yielded ops a.tmps)=true then Oper.wp Tryz.prog o a w K Q else E:=by
 rw[if_pos (by simp[Region.wanted,hgd])]
 exact kwp_srp HK i r s ho hL hx hy h
theorem krp(HK:Hid (Kn b0 w0 w L R))(i:Nat)(r:Operand)(ho:o.op=.load 28 r)(hL:L[i]?=some (g,28,rpA p))(hx:a.eval r=.pointer (some ⟨g,0,none⟩)):
  (execOp a.eval o).run Tryz.prog w=.ok (.value (.agg (rpA p))) w:=
 kexec_ls HK _ r ho i hL hx (rpA p) (fun j _=>by rw[Nat.zero_add]) Tryz.underlying28 info_rp
theorem wpList_sre(HK:Hid (Kn b0 w0 w L R))(i:Nat)(hgd:o.guard=none)(r s:Operand)(ho:o.op=.store 23 r s)(hL:L[i]?=some (g,28,rpA p))(hx:a.eval r=.pointer (some ⟨g,0,none⟩)){z:Int}(hy:a.eval s=.int .i64 z)
  (h:∀w',Hid (Kn b0 w0 w' (L.set i (g,28,rpA ⟨z,p.v⟩)) R)→wpList Tryz.prog ops Q rest (a.put o.dst undef) w'):wpList Tryz.prog ops Q (o::rest) a w:=
 wpList_sc HK i hgd _ r s ho hL hx hy rfl rfl (by show 0<5;decide) (by kernel_rfl) fun w' h1 _=>h w' h1
theorem wpList_srv(HK:Hid (Kn b0 w0 w L R))(i:Nat)(hgd:o.guard=none)(r s:Operand)(ho:o.op=.store 26 r s)(hL:L[i]?=some (g,28,rpA p))(hx:a.eval r=.pointer (some ⟨g,1,none⟩)){z:Val.V}(hy:a.eval s=.agg #[.int .i64 z.k,.int .i64 z.n,.int .u64 (z.f:Int),.string z.s])
  (h:∀w',Hid (Kn b0 w0 w' (L.set i (g,28,rpA ⟨p.e,z⟩)) R)→wpList Tryz.prog ops Q rest (a.put o.dst undef) w'):wpList Tryz.prog ops Q (o::rest) a w:=
 wpList_ss HK i hgd _ r s ho hL hx hy (by show 1+4≤5;decide) info_v4 (by simp[Value.oneCell']) fun w' h1 _=>h w' (by
  have e:putCells (rpA p) 1 (#[Value.int .i64 z.k,.int .i64 z.n,.int .u64 (z.f:Int),.string z.s]:Array Value).toList=rpA ⟨p.e,z⟩:=rfl
  rw[e] at h1
  exact h1)
end
section
variable {w:World}{o:Oper}{a:Act}{p q:Sto.Rp}
theorem rpq_all(p q:Sto.Rp):decide (p=q)=(decide (p.e=q.e)&&(decide (p.v.k=q.v.k)&&decide (p.v.n=q.v.n)&&decide ((p.v.f:Int)=(q.v.f:Int))&&decide (p.v.s.toList=q.v.s.toList))):=by
 obtain⟨e,v⟩:=p
 obtain⟨e',v'⟩:=q
 rw[← veq_all]
 show _=(decide (e=e')&&decide (v=v'))
 by_cases h1:e=e'<;>by_cases h2:v=v'<;>simp[h1,h2]
theorem exec_rpe{b:Bool}(i j:Operand)(ho:o.op=.binOp .eql 28 i j 28)(hx:a.eval i=.agg (rpA p))(hy:a.eval j=.agg (rpA q))(hb:decide (p=q)=b):
  (execOp a.eval o).run Tryz.prog w=.ok (.value (.bool b)) w:=by
 rw[rpq_all] at hb
 subst hb
 unfold execOp
 simp only[ho,hx,hy]
 unfold rpA
 go_simp
 by_cases h0:p.e=q.e<;>by_cases h1:p.v.k=q.v.k<;>by_cases h2:p.v.n=q.v.n<;>by_cases h3:(p.v.f:Int)=(q.v.f:Int)<;>by_cases h4:p.v.s.toList=q.v.s.toList<;>simp[h0,h1,h2,h3,h4]
theorem exec_rpn{b:Bool}(i j:Operand)(ho:o.op=.binOp .neq 28 i j 28)(hx:a.eval i=.agg (rpA p))(hy:a.eval j=.agg (rpA q))(hb:(!decide (p=q))=b):
  (execOp a.eval o).run Tryz.prog w=.ok (.value (.bool b)) w:=by
 rw[rpq_all] at hb
 subst hb
 unfold execOp
 simp only[ho,hx,hy]
 unfold rpA
 go_simp
 by_cases h0:p.e=q.e<;>by_cases h1:p.v.k=q.v.k<;>by_cases h2:p.v.n=q.v.n<;>by_cases h3:(p.v.f:Int)=(q.v.f:Int)<;>by_cases h4:p.v.s.toList=q.v.s.toList<;>simp[h0,h1,h2,h3,h4]
end
section
variable {H:Type}{enc:TypeId×Value→H}{W:World}{base:Nat}
theorem cells_rp:Tryz.prog.cellsOf 28=5:=by kernel_rfl
def rpL(p:Sto.Rp):List Value:=[.int .i64 p.e,.int .i64 p.v.k,.int .i64 p.v.n,.int .u64 (p.v.f:Int),.string p.v.s]
theorem opens_rp:OpensT enc 28 rpL (fun p=>p.v.f<18446744073709551616):=fun W n cs x ht=>by
 obtain⟨ys,m,_,hx,hlen,hyl,hf⟩:=DataW.trod_struct Tryz.underlying28 ht
 have hlen:cs.length=Tryz.prog.cellsOf 28:=hlen
 rw[cells_rp] at hlen
 match cs,hlen,ys,hyl with
 | [v0,v1,v2,v3,v4],_,[y0,y1],_=>
  have f0:=hf 0 _ rfl
  have f1:=hf 1 _ rfl
  simp only[List.getElem?_cons_zero,List.getElem?_cons_succ] at f0 f1
  obtain⟨a0,e0,_,_⟩:=DataW.trod_int Tryz.underlying23 f0
  obtain⟨a1,e1,w1⟩:=opens_val (enc:=enc) W _ _ _ f1
  cases e0;cases e1
  exact⟨⟨a0,a1⟩,rfl,w1⟩
end
end
section
open Go.RowKit
section
variable {P:Program}{α:Type}{La:Lay P α}{F:α→Prop}
structure Fits(La:Lay P α)(F:α→Prop)(l:List α):Prop where
 fs:∀x∈l,F x
 big:l.length*La.bytes≤140737488355328
structure Sls(La:Lay P α)(F:α→Prop)(w:World)(A:Option Addr)(n c:Nat)(l:List α):Prop where
 len:l.length=n
 cap:n≤c
 rd:La.Reads w w.heap.size A l
 nl:A=none→l=[]
 fit:Fits La F l
theorem Sls.later{w w':World}{A:Option Addr}{n c:Nat}{l:List α}(h:Sls La F w A n c l)(hb:Below w.heap.size w w'):Sls La F w' A n c l:=
 ⟨h.len,h.cap,h.rd.later hb (Nat.le_refl _),h.nl,h.fit⟩
theorem Sls.none(w:World):Sls La F w none 0 0 []:=⟨rfl,Nat.le_refl _,Lay.Reads.nil _ _ _,fun _=>rfl,⟨(fun x hx=>by simp at hx),by simp⟩⟩
theorem Sls.big{w:World}{A:Option Addr}{n c:Nat}{l:List α}(h:Sls La F w A n c l):n*La.bytes≤140737488355328:=by rw[← h.len];exact h.fit.big
theorem Sls.get{w:World}{A:Option Addr}{n c:Nat}{l:List α}(h:Sls La F w A n c l){k:Nat}(hk:k<n):∃x,l[k]?=some x∧F x:=by
 obtain⟨x,hx⟩:=Lay.get_of (l:=l) (k:=k) (by rw[h.len];exact hk)
 exact⟨x,hx,h.fit.fs x (List.mem_of_getElem? hx)⟩
theorem Lay.Own.rd{w:World}{b:Nat}{A:Option Addr}{n c:Nat}{l:List α}(h:La.Own b w (.slice A n c) l):La.Reads w w.heap.size A l∧(A=Option.none→l=[]):=by
 have hr:=h.reads
 refine⟨hr.2,fun hA=>?_⟩
 subst hA
 rcases h.2 with ⟨_,h0⟩|⟨g,cap,cur,e,_⟩
 ·exact List.length_eq_zero_iff.1 h0
 ·cases e
theorem Sls.own{w:World}{base:Nat}{A:Option Addr}{n c:Nat}{l:List α}(h:La.Own base w (.slice A n c) l)(hfit:Fits La F l):Sls La F w A n c l:=by
 have hn:=h.reads.1
 subst hn
 exact⟨rfl,h.cap,h.rd.1,h.rd.2,hfit⟩
theorem Sls.at{w:World}{A:Option Addr}{n c:Nat}{l:List α}(h:Sls La F w A n c l)(hn:0<n):∃b o,A=some ⟨b,o,Option.none⟩∧
  ∀W,Below w.heap.size w W→∀i x,l[i]?=some x→∀j v,(La.f x)[j]?=some v→W.cell? ⟨b,o+i*La.k+j,Option.none⟩=some v:=by
 have hl:=h.len
 obtain⟨b,o,rfl,hb,hc⟩:=h.rd (by omega)
 exact⟨b,o,rfl,fun W hW i x hx j v hv=>(hW.cell (p:=⟨b,o+i*La.k+j,Option.none⟩) hb).trans (hc i x hx j v hv)⟩
theorem Sls.cells{w:World}{b o n c:Nat}{l:List α}(h:Sls La F w (some ⟨b,o,Option.none⟩) n c l){i:Nat}{x:α}(hx:l[i]?=some x):∀j v,(La.f x)[j]?=some v→w.cell? ⟨b,o+i*La.k+j,Option.none⟩=some v:=by
 have hi:=(List.getElem?_eq_some_iff.1 hx).1
 obtain⟨b',o',e,hat⟩:=h.at (by rw[← h.len];omega)
 injection e with e
 injection e with e1 e2
 subst e1 e2
 exact hat w (Below.refl _ w) i x hx
theorem Fits.sub{l m:List α}(h:Fits La F l)(hm:∀x∈m,x∈l)(hn:m.length≤l.length):Fits La F m:=
 ⟨fun x hx=>h.fs x (hm x hx),Nat.le_trans (Nat.mul_le_mul_right _ hn) h.big⟩
theorem Sls.take{w:World}{A:Option Addr}{n c:Nat}{l:List α}(h:Sls La F w A n c l){hi:Nat}(h2:hi≤n):Sls La F w A hi c (l.take hi):=
 ⟨by rw[List.length_take,h.len];omega,Nat.le_trans h2 h.cap,h.rd.take hi,(fun e=>by rw[h.nl e];simp),h.fit.sub (fun x hx=>List.mem_of_mem_take hx) (by rw[List.length_take];omega)⟩
def subA(k:Nat)(A:Option Addr)(lo c:Nat):Option Addr:=if c=lo then A else A.map (·.add (lo*k))
theorem Sls.sub{w:World}{A:Option Addr}{n c:Nat}{l:List α}(h:Sls La F w A n c l){lo hi:Nat}(h1:lo≤hi)(h2:hi≤n):Sls La F w (subA La.k A lo c) (hi-lo) (c-lo) ((l.drop lo).take (hi-lo)):=by
 have hl:=h.len
 have hc:=h.cap
 have hle:((l.drop lo).take (hi-lo)).length=hi-lo:=by rw[List.length_take,List.length_drop];omega
 have hft:Fits La F ((l.drop lo).take (hi-lo)):=h.fit.sub (fun x hx=>List.mem_of_mem_drop (List.mem_of_mem_take hx)) (by omega)
 by_cases h0:hi-lo=0
 ·have he:(l.drop lo).take (hi-lo)=[]:=by rw[h0];rfl
  rw[he] at hft ⊢
  exact⟨by rw[h0];rfl,by omega,Lay.Reads.nil _ _ _,fun _=>rfl,hft⟩
 ·obtain⟨b,o,rfl,hb',hc'⟩:=h.rd (by omega)
  have hA:subA La.k (some ⟨b,o,Option.none⟩) lo c=some ⟨b,o+lo*La.k,Option.none⟩:=by
   unfold subA
   rw[if_neg (by omega),Option.map_some,Lay.add_at]
  rw[hA]
  exact⟨hle,by omega,(h.rd.drop lo).take (hi-lo),(fun e=>by cases e),hft⟩
theorem Sls.drop{w:World}{A:Option Addr}{n c:Nat}{l:List α}(h:Sls La F w A n c l){lo:Nat}(h2:lo≤n):Sls La F w (subA La.k A lo c) (n-lo) (c-lo) (l.drop lo):=by
 have h3:=h.sub h2 (Nat.le_refl n)
 rw[List.take_of_length_le (by rw[List.length_drop,h.len];exact Nat.le_refl _)] at h3
 exact h3
end
section
variable {P:Program}{α:Type}(La:Lay P α){o:Oper}{a:Act}{w:World}
theorem Lay.elem:P.elem La.t=La.e:=by simp[Program.elem,La.und]
theorem Lay.und':P.underlying La.t=some (.slice (P.elem La.t)):=by rw[La.elem];exact La.und
theorem Lay.size_run(w:World):(sizeOf (P.elem La.t)).run P w=.ok La.k w:=by
 rw[La.elem]
 obtain⟨i0,hi,hz0,hz1,hz2⟩:=info_parts La.info
 simp[sizeOf,typeInfo,hi,hz1]
theorem exec_sls_h{A:Option Addr}{n c hi:Nat}(x q:Operand)(ho:o.op=.slice La.t x none (some q) none)(hx:a.eval x=.slice A n c)(hq:a.eval q=.int .i64 (hi:Int))(h2:hi≤c):
  (execOp a.eval o).run P w=.ok (.value (.slice A hi c)) w:=by
 unfold execOp
 simp only[ho,Option.map_some,Option.map_none,hx,hq]
 have h:=run_sliceAt_slice (w:=w) La.t (.slice A n c) none (some (.int .i64 (hi:Int))) none La.und'
 rw[run_slice_h w La.t A n c La.und' .i64 (hi:Int) (by omega) (by omega),La.size_run] at h
 simp[h,Result.andThen,sliced]
 intro _
 cases A<;>simp[Addr.add]
theorem exec_slx{b off n c i:Nat}(x q:Operand)(ho:o.op=.indexAddr La.t x q)(hx:a.eval x=.slice (some ⟨b,off,none⟩) n c)(hq:a.eval q=.int .i64 (i:Int))(h:i<n):
  (execOp a.eval o).run P w=.ok (.value (.pointer (some ⟨b,off+i*La.k,none⟩))) w:=by
 unfold execOp
 simp only[ho,hx,hq]
 have h1:=run_indexAt_slice (w:=w) La.t ⟨b,off,none⟩ n c .i64 (i:Int) La.und'
 rw[La.size_run] at h1
 have h2:(0:Int)≤(i:Int)∧(i:Int)<(n:Int):=by omega
 simp[h1,h2,h,Result.andThen,Lay.add_at]
theorem exec_sls_l{A:Option Addr}{n c lo:Nat}(x p:Operand)(ho:o.op=.slice La.t x (some p) none none)(hx:a.eval x=.slice A n c)(hp:a.eval p=.int .i64 (lo:Int))(h1:lo≤n):
  (execOp a.eval o).run P w=.ok (.value (.slice (subA La.k A lo c) (n-lo) (c-lo))) w:=by
 unfold execOp
 simp only[ho,Option.map_some,Option.map_none,hx,hp]
 have h:=run_sliceAt_slice (w:=w) La.t (.slice A n c) (some (.int .i64 (lo:Int))) none none La.und'
 rw[run_slice_l w La.t A n c La.und' .i64 (lo:Int) (by omega) (by omega),La.size_run] at h
 simp[h,Result.andThen,sliced,subA]
theorem exec_sls_lh{A:Option Addr}{n c lo hi:Nat}(x p q:Operand)(ho:o.op=.slice La.t x (some p) (some q) none)(hx:a.eval x=.slice A n c)(hp:a.eval p=.int .i64 (lo:Int))(hq:a.eval q=.int .i64 (hi:Int))(h1:lo≤hi)(h2:hi≤c):
  (execOp a.eval o).run P w=.ok (.value (.slice (subA La.k A lo c) (hi-lo) (c-lo))) w:=by
 unfold execOp
 simp only[ho,Option.map_some,Option.map_none,hx,hp,hq]
 have h:=run_sliceAt_slice (w:=w) La.t (.slice A n c) (some (.int .i64 (lo:Int))) (some (.int .i64 (hi:Int))) none La.und'
 rw[run_slice_lh w La.t A n c La.und' .i64 .i64 (lo:Int) (hi:Int) (by omega) (by omega) (by omega),La.size_run] at h
 simp[h,Result.andThen,sliced,subA]
theorem exec_slv{b off:Nat}{x:α}{fs:Array Field}(p:Operand)(ho:o.op=.load La.e p)(hx:a.eval p=.pointer (some ⟨b,off,none⟩))(hs:P.underlying La.e=some (.struct fs))(hc:∀j v,(La.f x)[j]?=some v→w.cell? ⟨b,off+j,none⟩=some v):
  (execOp a.eval o).run P w=.ok (.value (.agg (La.f x).toArray)) w:=by
 obtain⟨i0,hi,hz0,hz1,hz2⟩:=info_parts La.info
 have hr:w.rangeAt b off (La.f x):=fun j v hj=>hc j v hj
 have h:=run_loadVar_mid (P:=P) w b off La.e (La.f x) _ hr hs rfl (by rw[hi,La.len];simp[hz1])
 unfold execOp
 simp only[ho,hx,Instr.loadAt,Instr.sureAddr,Sem.run_bind,Sem.run_pure,Result.andThen_ok,h]
end
end
end Go.Proofs.YtddpmlcpfmmbeaaGreat
