/- What meter.told returns: all that may be asked of a meter, each in its place; the memory behind it has two blocks more. No condition but those named. -/
import Derived.Test.YtahdlddbbnjloaaGreatNAH
import Derived.Test.YtahdlddbbnjloaaGreatNAG
set_option linter.unusedSimpArgs false
set_option linter.unusedVariables false
set_option maxRecDepth 100000
set_option maxHeartbeats 25600000
open Go.RowKit
namespace Go.Proofs.YtahdlddbbnjloaaGreat
open _root_.Go.Proofs.Tryz
section
def dw(b:Bool)(w:World)(e:Ending)(w':World):Prop:=e=.returned (.bool b)∧Below w.heap.size w w'
section
variable {w:World}{ops:Array Oper}{rest:List Oper}{o:Oper}{a:Act}{Q:Exit→Act→World→Prop}
theorem iO{j:Nat}{p:Operand}(h:j<9223372036854775807)(ho:o.op=.binOp .sub 3 p (.const (.int .i64 1)) 3:=by rfl)(hp:a.eval p=.int .i64 ((j+1:Nat):Int):=by rfl):
  (execOp a.eval o).run prog w=.ok (.value (.int .i64 (j:Int))) w:=by
 have hw:IntKind.i64.wrap (j:Int)=(j:Int):=by rw[IntKind.wrap_i64];omega
 exact adZ
theorem aR{j:Nat}{p:Operand}(h:j<9223372036854775807)(ho:o.op=.binOp .add 3 p (.const (.int .i64 1)) 3:=by rfl)(hp:a.eval p=.int .i64 (j:Int):=by rfl):
  (execOp a.eval o).run prog w=.ok (.value (.int .i64 ((j+1:Nat):Int))) w:=by
 have hw:IntKind.i64.wrap ((j:Int)+1)=(j:Int)+1:=by rw[IntKind.wrap_i64];omega
 exact adZ
theorem dQ{ad:Addr}{v:Value}{ty:TypeId}{d:TypeDesc}(p:Operand)(hc:w.cell? ad=some v)(hu:prog.underlying ty=some d)(ho:o.op=.load ty p:=by rfl)(hx:a.eval p=.pointer (some ad):=by rfl)(hd:d.isRow=false:=by rfl):
  (execOp a.eval o).run prog w=.ok (.value v) w:=by
 have hagg:(isAgg ty).run prog w=.ok false w:=by
  unfold isAgg;rw[Sem.run_bind,run_underlying hu w];cases d<;>simp_all
 have h:(loadVar ty ad).run prog w=.ok v w:=by
  simp[loadVar,Sem.run_bind,hagg,hc]
 exact aea
theorem aep{P:Program}{w:World}{v:Value}(hr:(execOp a.eval o).run P w=.ok (.value v) w)(hw:Region.wanted o (yielded ops a.tmps)=true)(h:wpList P ops Q rest (a.put o.dst v) w):wpList P ops Q (o::rest) a w:=
 av (hw:=hw) hr h
theorem zX{P:Program}{w:World}{v:Value}(hr:(execOp a.eval o).run P w=.ok (.value v) w)(h:wpList P ops Q rest (a.put o.dst v) w)(hw:Region.wanted o (yielded ops a.tmps)=true:=by rfl):wpList P ops Q (o::rest) a w:=av (hw:=hw) hr h
theorem dF{x k:Int}{b:Bool}{p:Operand}(hb:decide (k<x)=b)(ho:o.op=.binOp .gtr 3 p (.const (.int .i64 k)) 3:=by rfl)(hp:a.eval p=.int .i64 x:=by rfl):
  (execOp a.eval o).run prog w=.ok (.value (.bool b)) w:=by
 exact aeb
end
theorem rR{fn:Func}{R:Ending→World→Prop}{a:Act}{w:World}{u z:Value}{q q2:Tmp}(hf:fn.results=#[.tmp q,.tmp q2])
  (hR:R (.returned (.tuple #[u,z])) w) (h3:a.tmps[q]?=some u:=by rfl)(h4:a.tmps[q2]?=some z:=by rfl)(hd:a.defers=[]:=by rfl):bodyPost prog fn R Exit.ret a w:=by
 refine bodyPost_ret (v:=.tuple #[u,z]) ?_ hd hR;simp[results,hf,Sem.run_bind,h3,h4]
theorem nP{fn:Func}{R:Ending→World→Prop}{a:Act}{w:World}{u z y:Value}{q q2 q3:Tmp}(hf:fn.results=#[.tmp q,.tmp q2,.tmp q3])
  (hR:R (.returned (.tuple #[u,z,y])) w) (h3:a.tmps[q]?=some u:=by rfl)(h4:a.tmps[q2]?=some z:=by rfl)(h5:a.tmps[q3]?=some y:=by rfl)(hd:a.defers=[]:=by rfl):bodyPost prog fn R Exit.ret a w:=by
 refine bodyPost_ret (v:=.tuple #[u,z,y]) ?_ hd hR;simp[results,hf,Sem.run_bind,h3,h4,h5]
theorem eU{P:Program}{ops:Array Oper}{o:Oper}{a:Act}{w:World}{K:Act→World→Prop}{Q:Exit→Act→World→Prop}{E:Prop}{v:Value}(hr:(execOp a.eval o).run P w=.ok (.value v) w)(h:K (a.put o.dst v) w)(hw:Region.wanted o (yielded ops a.tmps)=true:=by rfl):
  if Region.wanted o (yielded ops a.tmps)=true then Oper.wp P o a w K Q else E:=by
 rw[if_pos hw];unfold Oper.wp;rw[hr,Oper.upon_value];exact h
end
section
section
variable {w:World}{ops:Array Oper}{rest:List Oper}{o:Oper}{a:Act}{Q:Exit→Act→World→Prop}
theorem Ej(v u:Val.V):decide (v=u)=(decide (v.k=u.k)&&decide (v.n=u.n)&&decide ((v.f:Int)=(u.f:Int))&&decide (v.s.toList=u.s.toList)):=by
 obtain⟨k,n,f,s⟩:=v;obtain⟨k',n',f',s'⟩:=u;have e:(⟨k,n,f,s⟩:Val.V)=⟨k',n',f',s'⟩↔(k=k'∧n=n'∧f=f'∧s=s'):=by simp
 show decide ((⟨k,n,f,s⟩:Val.V)=⟨k',n',f',s'⟩)=(decide (k=k')&&decide (n=n')&&decide ((f:Int)=(f':Int))&&decide (s.toList=s'.toList))
 have e2:((f:Int)=(f':Int))↔f=f':=by omega
 have e4:s.toList=s'.toList↔s=s':=Val.YX.symm;by_cases h:(⟨k,n,f,s⟩:Val.V)=⟨k',n',f',s'⟩
 ·obtain⟨rfl,rfl,rfl,rfl⟩:=e.1 h
  simp
 ·have h':=fun hh=>h (e.2 hh)
  rw[decide_eq_false h];by_cases h1:k=k'
  ·by_cases h2:n=n'
   ·by_cases h3:f=f'
    ·have h4:¬s=s':=fun h4=>h' ⟨h1,h2,h3,h4⟩
     rw[decide_eq_false (fun e5=>h4 (e4.1 e5))];simp
    ·rw[decide_eq_false (p:=(f:Int)=(f':Int)) (fun e5=>h3 (e2.1 e5))];simp
   ·rw[decide_eq_false h2];simp
  ·rw[decide_eq_false h1];simp
theorem lF{v u:Val.V}{b:Bool}{p:Operand}{q:Operand}(hb:(!decide (v=u))=b)(ho:o.op=.binOp .neq 26 p q 26:=by rfl)(hx:a.eval p=.agg #[.int .i64 v.k,.int .i64 v.n,.int .u64 (v.f:Int),.string v.s]:=by rfl)(hy:a.eval q=.agg #[.int .i64 u.k,.int .i64 u.n,.int .u64 (u.f:Int),.string u.s]:=by rfl):
  (execOp a.eval o).run prog w=.ok (.value (.bool b)) w:=by
 rw[Ej] at hb;subst hb;unfold execOp;simp only[ho,hx,hy];go_simp;by_cases h1:v.k=u.k<;>by_cases h2:v.n=u.n<;>by_cases h3:(v.f:Int)=(u.f:Int)<;>by_cases h4:v.s.toList=u.s.toList<;>simp[h1,h2,h3,h4]
end
theorem Um{fn:Func}{R:Ending→World→Prop}{a:Act}{w:World}{B:Nat}{k n:Int}{f:Nat}{s:ByteArray}{u:Value}{q q2:Tmp}(hf:fn.results=#[.cell q 26,.tmp q2])(hb:eT w B 26 (vC k n f s))
  (hR:R (.returned (.tuple #[.agg #[.int .i64 k,.int .i64 n,.int .u64 (f:Int),.string s],u])) w) (h2:a.tmps[q]?=some (.pointer (some ⟨B,0,none⟩)):=by rfl)(h3:a.tmps[q2]?=some u:=by rfl)(hd:a.defers=[]:=by rfl):bodyPost prog fn R Exit.ret a w:=by
 exact ahB
theorem nE{fn:Func}{R:Ending→World→Prop}{a:Act}{w:World}{B:Nat}{k n:Int}{f:Nat}{s:ByteArray}{u z:Value}{q q2 q3:Tmp}(hf:fn.results=#[.tmp q2,.cell q 26,.tmp q3])(hb:eT w B 26 (vC k n f s))
  (hR:R (.returned (.tuple #[u,.agg #[.int .i64 k,.int .i64 n,.int .u64 (f:Int),.string s],z])) w) (h2:a.tmps[q]?=some (.pointer (some ⟨B,0,none⟩)):=by rfl)(h3:a.tmps[q2]?=some u:=by rfl)(h4:a.tmps[q3]?=some z:=by rfl)(hd:a.defers=[]:=by rfl):bodyPost prog fn R Exit.ret a w:=by
 refine bodyPost_ret (v:=.tuple #[u,.agg #[.int .i64 k,.int .i64 n,.int .u64 (f:Int),.string s],z]) ?_ hd hR;exact ahw
theorem Eo{b0:Nat}{w0 w:World}{L:List (Nat×TypeId×Array Value)}{R:List bV}{ops:Array Oper}{o:Oper}{a:Act}{Q:Exit→Act→World→Prop}{K:Act→World→Prop}{E:Prop}{g:Nat}{k n k2 n2:Int}{f f2:Nat}{s s2:ByteArray}(HK:Hid (Kn b0 w0 w L R))(i:Nat){p:Operand}{q:Operand}
  (h:∀w',Hid (Kn b0 w0 w' (L.set i (g,26,vC k2 n2 f2 s2)) R)→K (a.put o.dst undef) w') (hgd:o.guard=none:=by rfl)(ho:o.op=.store 26 p q:=by rfl)(hL:L[i]?=some (g,26,vC k n f s):=by rfl)(hx:a.eval p=.pointer (some ⟨g,0,none⟩):=by rfl)(hy:a.eval q=.agg #[.int .i64 k2,.int .i64 n2,.int .u64 (f2:Int),.string s2]:=by rfl):if Region.wanted o (yielded ops a.tmps)=true then Oper.wp prog o a w K Q else E:=
 Ep HK i hgd p q ho hL hx hy (by show 4≤4;decide) iy fun w' h1 _=>h w' (by
  have e:putCells (vC k n f s) 0 (#[Value.int .i64 k2,.int .i64 n2,.int .u64 (f2:Int),.string s2]:Array Value).toList=vC k2 n2 f2 s2:=by
   show putCells (vC k n f s) 0 (vC k2 n2 f2 s2).toList=vC k2 n2 f2 s2
   exact acr
  rw[e] at h1
  exact h1)
end
section
open Go.ChangeShapes Go.WideShapes Go.Deep Go.RowKit
section
variable {H:Type}{enc:TypeId×Value→H}{W:World}{base:Nat}{α:Type}
def jm(enc:TypeId×Value→H)(e:TypeId)(f:α→List Value)(Good:α→Prop):Prop:=
 ∀(W:World) (n:Nat) (cs:List Value) (x:DataW H×List MemPlace),DataW.trod enc prog W 0 (fun _=>true) true n e cs=some x→∃it:α,cs=f it∧Good it
theorem Lift.Given.one{e:TypeId}{f:α→List Value}{Good:α→Prop}(hop:jm enc e f Good){fs:Array Field}(hs:prog.underlying e=some (.struct fs))
  {ts:List TypeId} {args:List Value} {ds:List (DataW H)} {before:List MemPlace} (h:Lift.Given enc prog (e::ts) W base args ds before) :
  ∃(x:α) (vs:List Value) (d:DataW H) (ds':List (DataW H)) (q:List MemPlace),args=.agg (f x).toArray::vs∧ds=d::ds'∧Good x∧Lift.Given enc prog ts W base vs ds' q:=by
 obtain⟨v,vs,d,ds',p,q,rfl,rfl,rfl,h0,hok,_,hw,hg⟩:=h.cons;obtain⟨fuel,h0⟩:=h0;obtain⟨cs,rfl,hsz⟩:=okWide_struct hs hok;obtain⟨it,hit,hgd⟩:=hop W _ _ _ h0;refine⟨it,vs,d,ds',q,?_,rfl,hgd,hg⟩;have hc:cs.toList=f it:=by simpa [Value.cells] using hit
 rw[← hc]
end
end
section
open Go.ChangeShapes Go.WideShapes Go.Deep Go.RowKit
def vaL(v:Val.V):List Value:=[.int .i64 v.k,.int .i64 v.n,.int .u64 (v.f:Int),.string v.s]
section
variable {H:Type}{enc:TypeId×Value→H}{W:World}{base:Nat}{α:Type}
theorem oV:prog.cellsOf 26=4:=by kernel_rfl
theorem mo:jm enc 26 vaL (fun v=>v.f<18446744073709551616):=fun W n cs x ht=>by
 obtain⟨ys,m,_,hx,hlen,hyl,hf⟩:=DataW.trod_struct underlying26 ht;have hlen:cs.length=prog.cellsOf 26:=hlen;rw[oV] at hlen
 match cs,hlen,ys,hyl with
 | [v0,v1,v2,v3],_,[y0,y1,y2,y3],_=>
  have f0:=hf 0 _ rfl;have f1:=hf 1 _ rfl;have f2:=hf 2 _ rfl;have f3:=hf 3 _ rfl;simp only[List.getElem?_cons_zero,List.getElem?_cons_succ] at f0 f1 f2 f3;obtain⟨a0,e0,_,_⟩:=DataW.trod_int underlying3 f0;obtain⟨a1,e1,_,_⟩:=DataW.trod_int underlying3 f1;obtain⟨a2,e2,_,w2⟩:=DataW.trod_int underlying24 f2;obtain⟨a3,e3,_,_⟩:=DataW.trod_string underlying9 f3;cases e0;cases e1;cases e2;cases e3;obtain⟨u,rfl,hu⟩:=rC w2;exact⟨⟨a0,a1,u,a3⟩,rfl,hu⟩
theorem Lift.Given.val{ts:List TypeId}{args:List Value}{ds:List (DataW H)}{before:List MemPlace}(h:Lift.Given enc prog (26::ts) W base args ds before):
  ∃(x:Val.V) (vs:List Value) (d:DataW H) (ds':List (DataW H)) (q:List MemPlace),args=.agg (vaL x).toArray::vs∧ds=d::ds'∧x.f<18446744073709551616∧Lift.Given enc prog ts W base vs ds' q:=h.one mo underlying26
end
end
section
open Go.ChangeShapes Go.WideShapes Go.Deep Go.RowKit
def dG(p:au.Rp):Array Value:=#[.int .i64 p.e,.int .i64 p.v.k,.int .i64 p.v.n,.int .u64 (p.v.f:Int),.string p.v.s]
theorem kg:(prog.info? 28).map (·.size)=some 5:=by kernel_rfl
section
variable {b0:Nat}{w0 w:World}{L:List (Nat×TypeId×Array Value)}{R:List bV}{ops:Array Oper}{rest:List Oper}{o:Oper}{a:Act}{Q:Exit→Act→World→Prop}{K:Act→World→Prop}{E:Prop}{g:Nat}{p q:au.Rp}
theorem iw(HK:Hid (Kn b0 w0 w L R))
  (h:∀w' g,Hid (Kn b0 w0 w' (L++[(g,28,dG au.rz)]) R)→wpList prog ops Q rest (a.put o.dst (.pointer (some ⟨g,0,none⟩))) w') (hgd:o.guard=none:=by rfl)(ho:o.op=.alloc 28:=by rfl):wpList prog ops Q (o::rest) a w:=
 wpList_plain hgd fun K hK=>by
  have h4:=h _ w.heap.size (zH (HK.out.alloc _ _));unfold Oper.wp execOp;simp only[ho];unfold dG au.rz at h4;exact zV
theorem NT(HK:Hid (Kn b0 w0 w L R))(i:Nat)(r s:Operand)(ho:o.op=.store 28 r s)(hL:L[i]?=some (g,28,dG p))(hx:a.eval r=.pointer (some ⟨g,0,none⟩))(hy:a.eval s=.agg (dG q))
  (h:∀w',Hid (Kn b0 w0 w' (L.set i (g,28,dG q)) R)→K (a.put o.dst undef) w'):o.wp prog a w K Q:=
 lQ HK r s ho i hL hx hy (by show 5≤5;decide) kg fun w' h1 _=>h w' (by
  have e:putCells (dG p) 0 (dG q).toList=dG q:=by rw[cK (vs:=(dG q).toList) (cs:=dG p),Array.toArray_toList]
  rw[e] at h1
  exact h1)
theorem bX(HK:Hid (Kn b0 w0 w L R))(i:Nat){r:Operand}{s:Operand}
  (h:∀w',Hid (Kn b0 w0 w' (L.set i (g,28,dG q)) R)→wpList prog ops Q rest (a.put o.dst undef) w') (hgd:o.guard=none:=by rfl)(ho:o.op=.store 28 r s:=by rfl)(hL:L[i]?=some (g,28,dG p):=by rfl)(hx:a.eval r=.pointer (some ⟨g,0,none⟩):=by rfl)(hy:a.eval s=.agg (dG q):=by rfl):wpList prog ops Q (o::rest) a w:=
 wpList_plain hgd fun _ hK=>NT HK i r s ho hL hx hy fun w' h1=>hK _ _ (h w' h1)
theorem bO(HK:Hid (Kn b0 w0 w L R))(i:Nat){r:Operand}{s:Operand}
  (h:∀w',Hid (Kn b0 w0 w' (L.set i (g,28,dG q)) R)→K (a.put o.dst undef) w') (hgd:o.guard=none:=by rfl)(ho:o.op=.store 28 r s:=by rfl)(hL:L[i]?=some (g,28,dG p):=by rfl)(hx:a.eval r=.pointer (some ⟨g,0,none⟩):=by rfl)(hy:a.eval s=.agg (dG q):=by rfl):if Region.wanted o (yielded ops a.tmps)=true then Oper.wp prog o a w K Q else E:=by
 rw[if_pos (by simp[Region.wanted,hgd])];exact NT HK i r s ho hL hx hy h
theorem Sg(HK:Hid (Kn b0 w0 w L R))(i:Nat){r:Operand}(ho:o.op=.load 28 r:=by rfl)(hL:L[i]?=some (g,28,dG p):=by rfl)(hx:a.eval r=.pointer (some ⟨g,0,none⟩):=by rfl):
  (execOp a.eval o).run prog w=.ok (.value (.agg (dG p))) w:=
 dY HK r ho i hL hx (dG p) (fun j _=>by rw[Nat.zero_add]) underlying28 kg
end
section
variable {w:World}{o:Oper}{a:Act}{p q:au.Rp}
theorem Ew(p q:au.Rp):decide (p=q)=(decide (p.e=q.e)&&(decide (p.v.k=q.v.k)&&decide (p.v.n=q.v.n)&&decide ((p.v.f:Int)=(q.v.f:Int))&&decide (p.v.s.toList=q.v.s.toList))):=by
 obtain⟨e,v⟩:=p;obtain⟨e',v'⟩:=q;rw[← Ej]
 show _=(decide (e=e')&&decide (v=v'))
 by_cases h1:e=e'<;>by_cases h2:v=v'<;>simp[h1,h2]
theorem kr{b:Bool}{i:Operand}{j:Operand}(hb:decide (p=q)=b)(ho:o.op=.binOp .eql 28 i j 28:=by rfl)(hx:a.eval i=.agg (dG p):=by rfl)(hy:a.eval j=.agg (dG q):=by rfl):
  (execOp a.eval o).run prog w=.ok (.value (.bool b)) w:=by
 rw[Ew] at hb;subst hb;unfold execOp;simp only[ho,hx,hy];unfold dG;go_simp;by_cases h0:p.e=q.e<;>by_cases h1:p.v.k=q.v.k<;>by_cases h2:p.v.n=q.v.n<;>by_cases h3:(p.v.f:Int)=(q.v.f:Int)<;>by_cases h4:p.v.s.toList=q.v.s.toList<;>simp[h0,h1,h2,h3,h4]
theorem oM{b:Bool}{i:Operand}{j:Operand}(hb:(!decide (p=q))=b)(ho:o.op=.binOp .neq 28 i j 28:=by rfl)(hx:a.eval i=.agg (dG p):=by rfl)(hy:a.eval j=.agg (dG q):=by rfl):
  (execOp a.eval o).run prog w=.ok (.value (.bool b)) w:=by
 rw[Ew] at hb;subst hb;unfold execOp;simp only[ho,hx,hy];unfold dG;go_simp;by_cases h0:p.e=q.e<;>by_cases h1:p.v.k=q.v.k<;>by_cases h2:p.v.n=q.v.n<;>by_cases h3:(p.v.f:Int)=(q.v.f:Int)<;>by_cases h4:p.v.s.toList=q.v.s.toList<;>simp[h0,h1,h2,h3,h4]
end
section
variable {H:Type}{enc:TypeId×Value→H}{W:World}{base:Nat}
theorem Ji:prog.cellsOf 28=5:=by kernel_rfl
def rpL(p:au.Rp):List Value:=[.int .i64 p.e,.int .i64 p.v.k,.int .i64 p.v.n,.int .u64 (p.v.f:Int),.string p.v.s]
theorem UQ:jm enc 28 rpL (fun p=>p.v.f<18446744073709551616):=fun W n cs x ht=>by
 obtain⟨ys,m,_,hx,hlen,hyl,hf⟩:=DataW.trod_struct underlying28 ht;have hlen:cs.length=prog.cellsOf 28:=hlen;rw[Ji] at hlen
 match cs,hlen,ys,hyl with
 | [v0,v1,v2,v3,v4],_,[y0,y1],_=>
  have f0:=hf 0 _ rfl;have f1:=hf 1 _ rfl;simp only[List.getElem?_cons_zero,List.getElem?_cons_succ] at f0 f1;obtain⟨a0,e0,_,_⟩:=DataW.trod_int underlying23 f0;obtain⟨a1,e1,w1⟩:=mo (enc:=enc) W _ _ _ f1;cases e0;cases e1;exact⟨⟨a0,a1⟩,rfl,w1⟩
end
end
section
def Yi(p:aQ.Pr):List Value:=[.string p.key,.int .i64 p.val.k,.int .i64 p.val.n,.int .u64 (p.val.f:Int),.string p.val.s]
def Yj(key:ByteArray)(k n:Int)(f:Nat)(s:ByteArray):Array Value:=#[.string key,.int .i64 k,.int .i64 n,.int .u64 (f:Int),.string s]
def vS(p:aQ.Pr):Array Value:=Yj p.key p.val.k p.val.n p.val.f p.val.s
theorem VP:(prog.info? 124).map (fun i=>(i.zero,i.size,i.bytes))=some (some (Value.agg #[.string ⟨#[]⟩,.int .i64 0,.int .i64 0,.int .u64 0,.string ⟨#[]⟩]),5,56):=by kernel_rfl
theorem Fe:(prog.info? 124).map (·.size)=some 5:=by kernel_rfl
def bY:Lay prog aQ.Pr where
 t:=69
 e:=124
 k:=5
 bytes:=56
 z:=.agg #[.string ⟨#[]⟩,.int .i64 0,.int .i64 0,.int .u64 0,.string ⟨#[]⟩]
 f:=Yi
 len:=fun _=>rfl
 one:=fun x u hu=>by
  unfold Yi at hu;simp only[List.mem_cons,List.not_mem_nil,or_false] at hu
  rcases hu with rfl|rfl|rfl|rfl|rfl<;>rfl
 und:=underlying69
 info:=VP
 zs:=rfl
 pos:=by decide
 small:=by decide
structure Sl(w:World)(A:Option Addr)(n c:Nat)(l:List aQ.Pr):Prop where
 len:l.length=n
 cap:n≤c
 rd:bY.Reads w w.heap.size A l
 nl:A=none→l=[]
 fs:∀x∈l,x.val.f<18446744073709551616
 big:n≤2513169434916
theorem Sl.later{w w':World}{A:Option Addr}{n c:Nat}{l:List aQ.Pr}(h:Sl w A n c l)(hb:Below w.heap.size w w'):Sl w' A n c l:=
 ⟨h.len,h.cap,h.rd.later hb (Nat.le_refl _),h.nl,h.fs,h.big⟩
theorem Sl.none(w:World):Sl w none 0 0 []:=⟨rfl,Nat.le_refl _,Lay.Reads.nil _ _ _,fun _=>rfl,(fun x hx=>by simp at hx),by decide⟩
structure Fit(l:List aQ.Pr):Prop where
 fs:∀x∈l,x.val.f<18446744073709551616
 big:l.length≤2513169434916
theorem Sl.fit{w:World}{A:Option Addr}{n c:Nat}{l:List aQ.Pr}(h:Sl w A n c l):Fit l:=⟨h.fs,by rw[h.len];exact h.big⟩
theorem Fit.wo{l:List aQ.Pr}(h:Fit l)(k:ByteArray):Fit (aQ.wo l k):=⟨fun x hx=>h.fs x (aQ.xw.1 hx).1,Nat.le_trans (List.length_filter_le _ _) h.big⟩
theorem Fit.ins{l:List aQ.Pr}(h:Fit l)(hu:aQ.Up l)(k:ByteArray){v:Val.V}(hv:v.f<18446744073709551616)(hn:(aQ.wo l k).length<8):Fit (aQ.ins l k v):=by
 have hp:=aQ.Ik hu k v;refine⟨fun x hx=>?_,?_⟩
 ·rcases List.mem_append.1 (hp.mem_iff.1 hx) with hx|hx
  ·exact(h.wo k).fs x hx
  ·rw[List.mem_singleton] at hx;subst hx;exact hv
 ·rw[hp.length_eq,List.length_append]
  show _+1≤_
  omega
theorem Sl.own{w:World}{base:Nat}{A:Option Addr}{n c:Nat}{l:List aQ.Pr}(h:bY.Own base w (.slice A n c) l)(hfit:Fit l):Sl w A n c l:=by
 obtain⟨hf,hb⟩:=hfit;have hr:=h.reads;have hn:=hr.1;subst hn;refine⟨rfl,h.cap,hr.2,fun hA=>?_,hf,hb⟩;subst hA
 rcases h.2 with ⟨_,h0⟩|⟨g,cap,cur,e,_⟩
 ·exact List.length_eq_zero_iff.1 h0
 ·cases e
theorem Sl.at{w:World}{A:Option Addr}{n c:Nat}{l:List aQ.Pr}(h:Sl w A n c l)(hn:0<n):∃b o,A=some ⟨b,o,Option.none⟩∧
  ∀W,Below w.heap.size w W→∀i x,l[i]?=some x→∀j v,(Yi x)[j]?=some v→W.cell? ⟨b,o+i*5+j,Option.none⟩=some v:=by
 have hl:=h.len;obtain⟨b,o,rfl,hb,hc⟩:=h.rd (by omega);exact⟨b,o,rfl,fun W hW i x hx j v hv=>(hW.cell (p:=⟨b,o+i*5+j,Option.none⟩) hb).trans (hc i x hx j v hv)⟩
theorem Sl.take{w:World}{A:Option Addr}{n c:Nat}{l:List aQ.Pr}(h:Sl w A n c l){hi:Nat}(h2:hi≤n):Sl w A hi c (l.take hi):=
 ⟨by rw[List.length_take,h.len];omega,Nat.le_trans h2 h.cap,h.rd.take hi,(fun e=>by rw[h.nl e];simp),(fun x hx=>h.fs x (List.mem_of_mem_take hx)),Nat.le_trans h2 h.big⟩
def sub(A:Option Addr)(lo c:Nat):Option Addr:=if c=lo then A else A.map (·.add (lo*5))
theorem Sl.sub{w:World}{A:Option Addr}{n c:Nat}{l:List aQ.Pr}(h:Sl w A n c l){lo hi:Nat}(h1:lo≤hi)(h2:hi≤n):Sl w (sub A lo c) (hi-lo) (c-lo) ((l.drop lo).take (hi-lo)):=by
 have hl:=h.len;have hc:=h.cap;have hb:=h.big;have hle:((l.drop lo).take (hi-lo)).length=hi-lo:=by rw[List.length_take,List.length_drop];omega
 have hfs:∀x∈(l.drop lo).take (hi-lo),x.val.f<18446744073709551616:=fun x hx=>h.fs x (List.mem_of_mem_drop (List.mem_of_mem_take hx))
 by_cases h0:hi-lo=0
 ·have he:(l.drop lo).take (hi-lo)=[]:=by rw[h0];rfl
  rw[he];exact⟨by rw[h0];rfl,by omega,Lay.Reads.nil _ _ _,fun _=>rfl,(fun x hx=>by simp at hx),by omega⟩
 ·obtain⟨b,o,rfl,hb',hc'⟩:=h.rd (by omega)
  have hA:Go.Proofs.YtahdlddbbnjloaaGreat.sub (some ⟨b,o,Option.none⟩) lo c=some ⟨b,o+lo*5,Option.none⟩:=by
   unfold Go.Proofs.YtahdlddbbnjloaaGreat.sub;rw[if_neg (by omega),Option.map_some,Lay.nS]
  rw[hA];have hr:=((h.rd.drop lo).take (hi-lo));exact⟨hle,by omega,hr,(fun e=>by cases e),hfs,by omega⟩
section
variable {b0:Nat}{w0 w:World}{L:List (Nat×TypeId×Array Value)}{R:List bV}{ops:Array Oper}{rest:List Oper}{o:Oper}{a:Act}{Q:Exit→Act→World→Prop}{K:Act→World→Prop}{E:Prop}{g:Nat}
theorem DF{A:Option Addr}{n c lo:Nat}{x:Operand}{p:Operand}(h1:lo≤n)(ho:o.op=.slice 69 x (some p) none none:=by rfl)(hx:a.eval x=.slice A n c:=by rfl)(hp:a.eval p=.int .i64 (lo:Int):=by rfl):
  (execOp a.eval o).run prog w=.ok (.value (.slice (sub A lo c) (n-lo) (c-lo))) w:=by
 unfold execOp;simp only[ho,Option.map_some,Option.map_none,hx,hp];go_simp
 rfl
theorem dK{b off n c i:Nat}{x:Operand}{q:Operand}(h:i<n)(ho:o.op=.indexAddr 69 x q:=by rfl)(hx:a.eval x=.slice (some ⟨b,off,none⟩) n c:=by rfl)(hq:a.eval q=.int .i64 (i:Int):=by rfl):
  (execOp a.eval o).run prog w=.ok (.value (.pointer (some ⟨b,off+i*5,none⟩))) w:=by
 have h1:(0:Int)≤(i:Int):=by omega
 have h2:(i:Int)<(n:Int):=by omega
 unfold execOp;simp only[ho,hx,hq];go_simp
theorem wI{x y:ByteArray}{b:Bool}{p:Operand}{q:Operand}(hb:aQ.lt x y=b)(ho:o.op=.binOp .lss 9 p q 9:=by rfl)(hx:a.eval p=.string x:=by rfl)(hy:a.eval q=.string y:=by rfl):
  (execOp a.eval o).run prog w=.ok (.value (.bool b)) w:=by
 subst hb;unfold execOp aQ.lt;simp only[ho,hx,hy];go_simp
theorem wJ{x y:ByteArray}{b:Bool}{p:Operand}{q:Operand}(hb:(!aQ.lt y x)=b)(ho:o.op=.binOp .leq 9 p q 9:=by rfl)(hx:a.eval p=.string x:=by rfl)(hy:a.eval q=.string y:=by rfl):
  (execOp a.eval o).run prog w=.ok (.value (.bool b)) w:=by
 have he:(Go.Op.bytesLess x.toList y.toList || x.toList==y.toList)=b:=by
  rw[← hb]
  show(aQ.lt x y || x.toList==y.toList)=!aQ.lt y x
  rcases aQ.Bb x y with h|rfl|h
  ·rw[h,aQ.lt_asymm h];rfl
  ·rw[aQ.lt_irrefl];simp
  ·rw[h,aQ.lt_asymm h]
   have hne:¬x.toList=y.toList:=fun e=>aQ.qM h (aQ.toList_inj e).symm
   simp[hne]
 exact Ed
theorem wK{x y:ByteArray}{b:Bool}{p:Operand}{q:Operand}(hb:(!aQ.lt x y)=b)(ho:o.op=.binOp .geq 9 p q 9:=by rfl)(hx:a.eval p=.string x:=by rfl)(hy:a.eval q=.string y:=by rfl):
  (execOp a.eval o).run prog w=.ok (.value (.bool b)) w:=by
 subst hb;unfold execOp aQ.lt;simp only[ho,hx,hy];go_simp
theorem sK{x y:ByteArray}{b:Bool}{p:Operand}{q:Operand}(hb:decide (x=y)=b)(ho:o.op=.binOp .eql 9 p q 9:=by rfl)(hx:a.eval p=.string x:=by rfl)(hy:a.eval q=.string y:=by rfl):
  (execOp a.eval o).run prog w=.ok (.value (.bool b)) w:=by
 have he:(x.toList==y.toList)=b:=by rw[← hb];by_cases h:x=y<;>simp[h,aQ.eq_iff.symm]
 exact Ed
theorem IB{x y:ByteArray}{b:Bool}{p:Operand}{q:Operand}(hb:(!decide (x=y))=b)(ho:o.op=.binOp .neq 9 p q 9:=by rfl)(hx:a.eval p=.string x:=by rfl)(hy:a.eval q=.string y:=by rfl):
  (execOp a.eval o).run prog w=.ok (.value (.bool b)) w:=by
 have he:(!(x.toList==y.toList))=b:=by rw[← hb];by_cases h:x=y<;>simp[h,aQ.eq_iff.symm]
 exact Ed
theorem mZ{b off:Nat}{x:aQ.Pr}{p:Operand}(hc:∀j v,(Yi x)[j]?=some v→w.cell? ⟨b,off+j,none⟩=some v)(ho:o.op=.load 124 p:=by rfl)(hx:a.eval p=.pointer (some ⟨b,off,none⟩):=by rfl):
  (execOp a.eval o).run prog w=.ok (.value (.agg (vS x))) w:=by
 have hr:w.rangeAt b off (vS x).toList:=fun j v hj=>hc j v hj
 have h:=run_loadVar_mid (P:=prog) w b off 124 (vS x).toList _ hr underlying124 rfl (by
  have h:(prog.info? 124).map (·.size)=some (vS x).size:=Fe
  simpa using h)
 exact YF
theorem sN{b off off2:Nat}{x:aQ.Pr}{p:Operand}(hc:∀j v,(Yi x)[j]?=some v→w.cell? ⟨b,off+j,none⟩=some v)(ho:o.op=.load 26 p:=by rfl)(hx:a.eval p=.pointer (some ⟨b,off2,none⟩):=by rfl)(ho2:off2=off+1:=by rfl):
  (execOp a.eval o).run prog w=.ok (.value (.agg #[.int .i64 x.val.k,.int .i64 x.val.n,.int .u64 (x.val.f:Int),.string x.val.s])) w:=by
 subst ho2
 have hr:w.rangeAt b (off+1) (vC x.val.k x.val.n x.val.f x.val.s).toList:=fun j v hj=>by
  rw[Nat.add_assoc,Nat.add_comm 1 j];exact hc (j+1) v hj
 have h:=run_loadVar_mid (P:=prog) w b (off+1) 26 (vC x.val.k x.val.n x.val.f x.val.s).toList _ hr underlying26 rfl (by
  have h:(prog.info? 26).map (·.size)=some (vC x.val.k x.val.n x.val.f x.val.s).size:=iy
  simpa using h)
 unfold execOp;simp only[ho,hx,Instr.loadAt,Instr.sureAddr,Sem.run_bind,Sem.run_pure,Result.andThen_ok,h,Array.toArray_toList]
 rfl
theorem eu{b off:Nat}{x:aQ.Pr}{p:Operand}(hc:∀j v,(Yi x)[j]?=some v→w.cell? ⟨b,off+j,none⟩=some v)(ho:o.op=.load 9 p:=by rfl)(hx:a.eval p=.pointer (some ⟨b,off,none⟩):=by rfl):
  (execOp a.eval o).run prog w=.ok (.value (.string x.key)) w:=
 dQ p (ho:=ho) (hx:=hx) (hc 0 _ rfl) underlying9
theorem sO{b off off2:Nat}{x:aQ.Pr}{p:Operand}(hc:∀j v,(Yi x)[j]?=some v→w.cell? ⟨b,off+j,none⟩=some v)(ho:o.op=.load 3 p:=by rfl)(hx:a.eval p=.pointer (some ⟨b,off2,none⟩):=by rfl)(ho2:off2=off+1:=by rfl):
  (execOp a.eval o).run prog w=.ok (.value (.int .i64 x.val.k)) w:=by
 subst ho2;exact dQ p (ho:=ho) (hx:=hx) (hc 1 _ rfl) underlying3
theorem kR{key:ByteArray}{k n:Int}{f:Nat}{s:ByteArray}(HK:Hid (Kn b0 w0 w L R))(i:Nat){x:Operand}(ho:o.op=.load 9 x:=by rfl)(hL:L[i]?=some (g,124,Yj key k n f s):=by rfl)(hx:a.eval x=.pointer (some ⟨g,0,none⟩):=by rfl):
  (execOp a.eval o).run prog w=.ok (.value (.string key)) w:=aT HK _ x ho i hL hx underlying9
theorem oz{key:ByteArray}{k n:Int}{f:Nat}{s:ByteArray}(HK:Hid (Kn b0 w0 w L R))(i:Nat){x:Operand}(ho:o.op=.load 26 x:=by rfl)(hL:L[i]?=some (g,124,Yj key k n f s):=by rfl)(hx:a.eval x=.pointer (some ⟨g,1,none⟩):=by rfl):
  (execOp a.eval o).run prog w=.ok (.value (.agg #[.int .i64 k,.int .i64 n,.int .u64 (f:Int),.string s])) w:=
 dY HK x ho i hL hx #[.int .i64 k,.int .i64 n,.int .u64 (f:Int),.string s] (fun j hj=>by
  match j,hj with
  | 0,_|1,_|2,_|3,_=>rfl) underlying26 iy
theorem Ac(HK:Hid (Kn b0 w0 w L R))(hgd:o.guard=none)(ho:o.op=.alloc 124)
  (h:∀w' g,Hid (Kn b0 w0 w' (L++[(g,124,Yj ⟨#[]⟩ 0 0 0 ⟨#[]⟩)]) R)→wpList prog ops Q rest (a.put o.dst (.pointer (some ⟨g,0,none⟩))) w'):wpList prog ops Q (o::rest) a w:=
 wpList_plain hgd fun K hK=>by
  have h4:=h _ w.heap.size (zH (HK.out.alloc _ _));unfold Oper.wp execOp;simp only[ho];unfold Yj at h4;exact zV
theorem CF{p1 p2:aQ.Pr}(HK:Hid (Kn b0 w0 w L R))(i:Nat)(hgd:o.guard=none){p:Operand}{q:Operand}(ho:o.op=.store 124 p q)(hL:L[i]?=some (g,124,vS p1))(hx:a.eval p=.pointer (some ⟨g,0,none⟩))(hy:a.eval q=.agg (vS p2))
  (h:∀w',Hid (Kn b0 w0 w' (L.set i (g,124,vS p2)) R)→wpList prog ops Q rest (a.put o.dst undef) w'):wpList prog ops Q (o::rest) a w:=
 iL HK i hgd p q ho hL hx hy (by show 5≤5;decide) Fe (h1:=(by simp[vS,Yj,Value.oneCell'])) fun w' h1 h2=>h w' (by
  have e:putCells (vS p1) 0 (vS p2).toList=vS p2:=by
   rw[cK (vs:=(vS p2).toList) (cs:=vS p1),Array.toArray_toList]
  rw[e] at h1
  exact h1)
theorem Kn.mkP(h:Kn b0 w0 w L R)(l:List aQ.Pr)(C:Array Value)(hC:C=(bY.flat l).toArray)(n:Nat)(hn:n=l.length)(hl:l.length≤65536):
  Kn b0 w0 (w.alloc (.cells C bY.e)) L (R++[row bY (.slice (some ⟨w.heap.size,0,none⟩) n n) l]):=
 h.called ((Below.refl _ w).alloc (Nat.le_refl _) _) (Lay.Own.new w l C _ _ _ hC (Nat.le_refl _) rfl hn hn hl)
theorem pQ(HK:Hid (Kn b0 w0 w L R)){x:Operand}{p:aQ.Pr}
  (h:∀w' g,Hid (Kn b0 w0 w' L (R++[row bY (.slice (some ⟨g,0,none⟩) 1 1) [p]]))→wpList prog ops Q rest (a.put o.dst (.slice (some ⟨g,0,none⟩) 1 1)) w') (hgd:o.guard=none:=by rfl)(ho:o.op=.buildSlice 69 1 #[(0,x)]:=by rfl)(hx:a.eval x=.agg (vS p):=by rfl):wpList prog ops Q (o::rest) a w:=
 wpList_plain hgd fun K hK=>by
  have h4:=h _ w.heap.size (zH (HK.out.mkP [p] (vS p) rfl 1 rfl (by show 1≤65536;decide)))
  have hr:(Instr.buildSlice 69 1 #[(0,.agg (vS p))]).run prog w=.ok (.slice (some ⟨w.heap.size,0,none⟩) 1 1) (w.alloc (.cells (vS p) bY.e)):=by
   unfold vS Yj;go_simp
   rfl
  exact ahi
end
def IsL(r:List aQ.Pr)(w:World)(e:Ending)(w':World):Prop:=∃A n c,e=.returned (.slice A n c)∧bY.Own w.heap.size w' (.slice A n c) r∧Below w.heap.size w w'
end
section
section
variable {P:Program}{α:Type}{La:Lay P α}{F:α→Prop}
structure Fits(La:Lay P α)(F:α→Prop)(l:List α):Prop where
 fs:∀x∈l,F x
 big:l.length*La.bytes≤140737488355328
structure bT(La:Lay P α)(F:α→Prop)(w:World)(A:Option Addr)(n c:Nat)(l:List α):Prop where
 len:l.length=n
 cap:n≤c
 rd:La.Reads w w.heap.size A l
 nl:A=none→l=[]
 fit:Fits La F l
theorem bT.later{w w':World}{A:Option Addr}{n c:Nat}{l:List α}(h:bT La F w A n c l)(hb:Below w.heap.size w w'):bT La F w' A n c l:=
 ⟨h.len,h.cap,h.rd.later hb (Nat.le_refl _),h.nl,h.fit⟩
theorem bT.none(w:World):bT La F w none 0 0 []:=⟨rfl,Nat.le_refl _,Lay.Reads.nil _ _ _,fun _=>rfl,⟨(fun x hx=>by simp at hx),by simp⟩⟩
theorem bT.big{w:World}{A:Option Addr}{n c:Nat}{l:List α}(h:bT La F w A n c l):n*La.bytes≤140737488355328:=by rw[← h.len];exact h.fit.big
theorem bT.get{w:World}{A:Option Addr}{n c:Nat}{l:List α}(h:bT La F w A n c l){k:Nat}(hk:k<n):∃x,l[k]?=some x∧F x:=by
 obtain⟨x,hx⟩:=Lay.dW (l:=l) (k:=k) (by rw[h.len];exact hk);exact⟨x,hx,h.fit.fs x (List.mem_of_getElem? hx)⟩
theorem Lay.Own.rd{w:World}{b:Nat}{A:Option Addr}{n c:Nat}{l:List α}(h:La.Own b w (.slice A n c) l):La.Reads w w.heap.size A l∧(A=Option.none→l=[]):=by
 have hr:=h.reads;refine⟨hr.2,fun hA=>?_⟩;subst hA
 rcases h.2 with ⟨_,h0⟩|⟨g,cap,cur,e,_⟩
 ·exact List.length_eq_zero_iff.1 h0
 ·cases e
theorem bT.own{w:World}{base:Nat}{A:Option Addr}{n c:Nat}{l:List α}(h:La.Own base w (.slice A n c) l)(hfit:Fits La F l):bT La F w A n c l:=by
 have hn:=h.reads.1;subst hn;exact⟨rfl,h.cap,h.rd.1,h.rd.2,hfit⟩
theorem bT.at{w:World}{A:Option Addr}{n c:Nat}{l:List α}(h:bT La F w A n c l)(hn:0<n):∃b o,A=some ⟨b,o,Option.none⟩∧
  ∀W,Below w.heap.size w W→∀i x,l[i]?=some x→∀j v,(La.f x)[j]?=some v→W.cell? ⟨b,o+i*La.k+j,Option.none⟩=some v:=by
 have hl:=h.len;obtain⟨b,o,rfl,hb,hc⟩:=h.rd (by omega);exact⟨b,o,rfl,fun W hW i x hx j v hv=>(hW.cell (p:=⟨b,o+i*La.k+j,Option.none⟩) hb).trans (hc i x hx j v hv)⟩
theorem bT.cells{w:World}{b o n c:Nat}{l:List α}(h:bT La F w (some ⟨b,o,Option.none⟩) n c l){i:Nat}{x:α}(hx:l[i]?=some x):∀j v,(La.f x)[j]?=some v→w.cell? ⟨b,o+i*La.k+j,Option.none⟩=some v:=by
 exact aho
theorem Fits.sub{l m:List α}(h:Fits La F l)(hm:∀x∈m,x∈l)(hn:m.length≤l.length):Fits La F m:=
 ⟨fun x hx=>h.fs x (hm x hx),Nat.le_trans (Nat.mul_le_mul_right _ hn) h.big⟩
theorem bT.take{w:World}{A:Option Addr}{n c:Nat}{l:List α}(h:bT La F w A n c l){hi:Nat}(h2:hi≤n):bT La F w A hi c (l.take hi):=
 ⟨by rw[List.length_take,h.len];omega,Nat.le_trans h2 h.cap,h.rd.take hi,(fun e=>by rw[h.nl e];simp),h.fit.sub (fun x hx=>List.mem_of_mem_take hx) (by rw[List.length_take];omega)⟩
def mE(k:Nat)(A:Option Addr)(lo c:Nat):Option Addr:=if c=lo then A else A.map (·.add (lo*k))
theorem bT.sub{w:World}{A:Option Addr}{n c:Nat}{l:List α}(h:bT La F w A n c l){lo hi:Nat}(h1:lo≤hi)(h2:hi≤n):bT La F w (mE La.k A lo c) (hi-lo) (c-lo) ((l.drop lo).take (hi-lo)):=by
 have hl:=h.len;have hc:=h.cap;have hle:((l.drop lo).take (hi-lo)).length=hi-lo:=by rw[List.length_take,List.length_drop];omega
 have hft:Fits La F ((l.drop lo).take (hi-lo)):=h.fit.sub (fun x hx=>List.mem_of_mem_drop (List.mem_of_mem_take hx)) (by omega);by_cases h0:hi-lo=0
 ·have he:(l.drop lo).take (hi-lo)=[]:=by rw[h0];rfl
  rw[he] at hft ⊢;exact⟨by rw[h0];rfl,by omega,Lay.Reads.nil _ _ _,fun _=>rfl,hft⟩
 ·obtain⟨b,o,rfl,hb',hc'⟩:=h.rd (by omega)
  have hA:mE La.k (some ⟨b,o,Option.none⟩) lo c=some ⟨b,o+lo*La.k,Option.none⟩:=by
   unfold mE;rw[if_neg (by omega),Option.map_some,Lay.nS]
  rw[hA];exact⟨hle,by omega,(h.rd.drop lo).take (hi-lo),(fun e=>by cases e),hft⟩
theorem bT.drop{w:World}{A:Option Addr}{n c:Nat}{l:List α}(h:bT La F w A n c l){lo:Nat}(h2:lo≤n):bT La F w (mE La.k A lo c) (n-lo) (c-lo) (l.drop lo):=by
 have h3:=h.sub h2 (Nat.le_refl n);rw[List.take_of_length_le (by rw[List.length_drop,h.len];exact Nat.le_refl _)] at h3;exact h3
end
section
variable {P:Program}{α:Type}(La:Lay P α){o:Oper}{a:Act}{w:World}
theorem Lay.elem:P.elem La.t=La.e:=by simp[Program.elem,La.und]
theorem Lay.Te:P.underlying La.t=some (.slice (P.elem La.t)):=by rw[La.elem];exact La.und
theorem Lay.Am(w:World):(sizeOf (P.elem La.t)).run P w=.ok La.k w:=by
 rw[La.elem];obtain⟨i0,hi,hz0,hz1,hz2⟩:=info_parts La.info;simp[sizeOf,typeInfo,hi,hz1]
theorem BJ{A:Option Addr}{n c hi:Nat}(x q:Operand)(ho:o.op=.slice La.t x none (some q) none)(hx:a.eval x=.slice A n c)(hq:a.eval q=.int .i64 (hi:Int))(h2:hi≤c):
  (execOp a.eval o).run P w=.ok (.value (.slice A hi c)) w:=by
 unfold execOp;simp only[ho,Option.map_some,Option.map_none,hx,hq];have h:=run_sliceAt_slice (w:=w) La.t (.slice A n c) none (some (.int .i64 (hi:Int))) none La.Te;rw[run_slice_h w La.t A n c La.Te .i64 (hi:Int) (by omega) (by omega),La.Am] at h;simp[h,Result.andThen,sliced];intro _;cases A<;>simp[Addr.add]
theorem dZ{b off n c i:Nat}{x:Operand}{q:Operand}(h:i<n)(ho:o.op=.indexAddr La.t x q:=by rfl)(hx:a.eval x=.slice (some ⟨b,off,none⟩) n c:=by rfl)(hq:a.eval q=.int .i64 (i:Int):=by rfl):
  (execOp a.eval o).run P w=.ok (.value (.pointer (some ⟨b,off+i*La.k,none⟩))) w:=by
 unfold execOp;simp only[ho,hx,hq];have h1:=run_indexAt_slice (w:=w) La.t ⟨b,off,none⟩ n c .i64 (i:Int) La.Te;rw[La.Am] at h1;have h2:(0:Int)≤(i:Int)∧(i:Int)<(n:Int):=by omega
 simp[h1,h2,h,Result.andThen,Lay.nS]
theorem kT{A:Option Addr}{n c lo:Nat}(x p:Operand)(h1:lo≤n)(ho:o.op=.slice La.t x (some p) none none:=by rfl)(hx:a.eval x=.slice A n c:=by rfl)(hp:a.eval p=.int .i64 (lo:Int):=by rfl):
  (execOp a.eval o).run P w=.ok (.value (.slice (mE La.k A lo c) (n-lo) (c-lo))) w:=by
 unfold execOp;simp only[ho,Option.map_some,Option.map_none,hx,hp];have h:=run_sliceAt_slice (w:=w) La.t (.slice A n c) (some (.int .i64 (lo:Int))) none none La.Te;rw[run_slice_l w La.t A n c La.Te .i64 (lo:Int) (by omega) (by omega),La.Am] at h;simp[h,Result.andThen,sliced,mE]
theorem fI{b off:Nat}{x:α}{fs:Array Field}{p:Operand}(hs:P.underlying La.e=some (.struct fs))(hc:∀j v,(La.f x)[j]?=some v→w.cell? ⟨b,off+j,none⟩=some v)(ho:o.op=.load La.e p:=by rfl)(hx:a.eval p=.pointer (some ⟨b,off,none⟩):=by rfl):
  (execOp a.eval o).run P w=.ok (.value (.agg (La.f x).toArray)) w:=by
 obtain⟨i0,hi,hz0,hz1,hz2⟩:=info_parts La.info;have hr:w.rangeAt b off (La.f x):=fun j v hj=>hc j v hj
 have h:=run_loadVar_mid (P:=P) w b off La.e (La.f x) _ hr hs rfl (by rw[hi,La.len];simp[hz1]);exact aea
end
end
section
section
variable {P:Program}{α:Type}(La:Lay P α){b0:Nat}{w0 w:World}{L:List (Nat×TypeId×Array Value)}{R:List bV}{ops:Array Oper}{rest:List Oper}{o:Oper}{a:Act}{Q:Exit→Act→World→Prop}{K:Act→World→Prop}{E:Prop}{g:Nat}
theorem Lay.xD(w:World):(Instr.alloc La.e true (.tuple #[])).run P w=.ok (.pointer (some ⟨w.heap.size,0,none⟩)) (w.alloc (.cells La.z.cells La.e)):=by
 obtain⟨i0,hi,hz0,hz1,hz2⟩:=info_parts La.info;simp[Instr.alloc,zeroValue,typeInfo,hi,hz0,newVar,newRow]
theorem lZ(HK:Hid (Kn b0 w0 w L R))(hgd:o.guard=none)(ho:o.op=.alloc La.e)
  (h:∀w' g,Hid (Kn b0 w0 w' (L++[(g,La.e,La.z.cells)]) R)→wpList P ops Q rest (a.put o.dst (.pointer (some ⟨g,0,none⟩))) w'):wpList P ops Q (o::rest) a w:=
 wpList_plain hgd fun K hK=>by
  have h4:=h _ w.heap.size (zH (HK.out.alloc La.e La.z.cells));unfold Oper.wp execOp;simp only[ho,Sem.run_bind,Sem.run_pure,La.xD,Result.andThen_ok];exact hK _ _ h4
theorem Lay.xC:(P.info? La.e).map (·.size)=some La.k:=by
 obtain⟨i0,hi,hz0,hz1,hz2⟩:=info_parts La.info;rw[hi];simp[hz1]
theorem Lay.FH(p:α):(La.f p).toArray.all (·.oneCell')=true:=by
 rw[List.all_toArray,List.all_eq_true];exact La.one p
theorem lY{p2:α}{cs:Array Value}(HK:Hid (Kn b0 w0 w L R))(i:Nat)(hgd:o.guard=none)(p q:Operand)(ho:o.op=.store La.e p q)(hL:L[i]?=some (g,La.e,cs))(hx:a.eval p=.pointer (some ⟨g,0,none⟩))(hy:a.eval q=.agg (La.f p2).toArray)
  (h:∀w',Hid (Kn b0 w0 w' (L.set i (g,La.e,(La.f p2).toArray)) R)→wpList P ops Q rest (a.put o.dst undef) w') (hcs:cs.size=La.k:=by rfl):wpList P ops Q (o::rest) a w:=
 iL HK i hgd p q ho hL hx hy (by rw[hcs];simp[La.len]) (by rw[La.xC];simp[La.len]) (h1:=(La.FH p2)) fun w' h1 h2=>h w' (by
  have e:putCells cs 0 (La.f p2).toArray.toList=(La.f p2).toArray:=by
   rw[cK (h:=(by simp[hcs,La.len])),Array.toArray_toList]
  rw[e] at h1
  exact h1)
theorem Nh{p2:α}{cs:Array Value}(HK:Hid (Kn b0 w0 w L R))(i:Nat)(hgd:o.guard=none)(p q:Operand)(ho:o.op=.store La.e p q)(hL:L[i]?=some (g,La.e,cs))(hcs:cs.size=La.k)(hx:a.eval p=.pointer (some ⟨g,0,none⟩))(hy:a.eval q=.agg (La.f p2).toArray)
  (h:∀w',Hid (Kn b0 w0 w' (L.set i (g,La.e,(La.f p2).toArray)) R)→K (a.put o.dst undef) w'):if Region.wanted o (yielded ops a.tmps)=true then Oper.wp P o a w K Q else E:=
 Ep HK i hgd p q ho hL hx hy (by rw[hcs];simp[La.len]) (by rw[La.xC];simp[La.len]) (h1:=(La.FH p2)) fun w' h1 h2=>h w' (by
  have e:putCells cs 0 (La.f p2).toArray.toList=(La.f p2).toArray:=by
   rw[cK (h:=(by simp[hcs,La.len])),Array.toArray_toList]
  rw[e] at h1
  exact h1)
theorem oC{p:α}{fs:Array Field}(hs:P.underlying La.e=some (.struct fs))(HK:Hid (Kn b0 w0 w L R))(i:Nat){x:Operand}(ho:o.op=.load La.e x:=by rfl)(hL:L[i]?=some (g,La.e,(La.f p).toArray):=by rfl)(hx:a.eval x=.pointer (some ⟨g,0,none⟩):=by rfl):
  (execOp a.eval o).run P w=.ok (.value (.agg (La.f p).toArray)) w:=
 dY HK x ho i hL hx (La.f p).toArray (fun j _=>by rw[Nat.zero_add]) hs (by rw[La.xC];simp[La.len])
theorem Lay.run_mk(w:World)(l:List α)(vs:List Value)(hv:vs.map (fun v=>v.cells.toList)=l.map La.f)(n:Nat)(hn:n=l.length)(hsm:n*La.k≤65536)(parts:Array (Nat×Value))(hp:parts.toList=(vs.zipIdx 0).map fun x=>(x.2,x.1)):
  (Instr.buildSlice La.t n parts).run P w=.ok (.slice (some ⟨w.heap.size,0,none⟩) n n) (w.alloc (.cells (La.flat l).toArray La.e)):=by
 obtain⟨i0,hi,hz0,hz1,hz2⟩:=info_parts La.info;have hlen:vs.length=l.length:=by have:=congrArg List.length hv;simpa using this
 have hfl:(vs.flatMap fun v=>v.cells.toList)=La.flat l:=by
  unfold Lay.flat;rw[List.flatMap_def,List.flatMap_def,hv]
 by_cases h0:l=[]
 ·subst h0
  have hvs:vs=[]:=List.length_eq_zero_iff.1 hlen;subst hvs;have hpp:parts=#[]:=Array.toList_inj.1 (by rw[hp];rfl);subst hpp;obtain rfl:n=0:=hn;simp[Instr.buildSlice,run_underlying La.und,sizeOf,typeInfo,hi,Instr.fill,newRow,Lay.flat];rw[show Array.range 0=#[] from Array.eq_empty_of_size_eq_zero (by simp),Array.map_empty]
 ·have hpos:0<l.length:=List.length_pos_iff.2 h0
  have hk:=La.pos
  have hne:¬n*i0.size=0:=by
   rw[hz1,hn];exact Nat.ne_of_gt (Nat.mul_pos hpos hk)
  refine Go.run_buildSlice w La.t La.e n parts _ i0 La.z La.und hi hz0 (by rw[hz1];omega) hne ?_;rw[hp,hz1]
  have h1:∀v∈vs,v.cells.size=La.k:=fun v hvm=>by
   have:v.cells.toList∈l.map La.f:=by rw[← hv];exact List.mem_map.2 ⟨v,hvm,rfl⟩
   obtain⟨x,_,hx⟩:=List.mem_map.1 this;rw[← La.len x,hx,Array.length_toList]
  rw[Great.fill_whole hk vs _ h1 (by simp[hlen,hn]),hfl]
theorem Kn.mkS(h:Kn b0 w0 w L R)(l:List α)(n:Nat)(hn:n=l.length)(hl:n≤65536):
  Kn b0 w0 (w.alloc (.cells (La.flat l).toArray La.e)) L (R++[row La (.slice (some ⟨w.heap.size,0,none⟩) n n) l]):=
 h.called ((Below.refl _ w).alloc (Nat.le_refl _) _) (Lay.Own.new w l _ _ _ _ rfl (Nat.le_refl _) rfl hn hn (by omega))
theorem uT(HK:Hid (Kn b0 w0 w L R))(l:List α)(n:Nat)(parts:Array (Nat×Operand))(ho:o.op=.buildSlice La.t n parts)(vs:List Value)(hp:(parts.map fun(i,x)=>(i,a.eval x)).toList=(vs.zipIdx 0).map fun x=>(x.2,x.1))(hv:vs.map (fun v=>v.cells.toList)=l.map La.f)
  (h:∀w' g,Hid (Kn b0 w0 w' L (R++[row La (.slice (some ⟨g,0,none⟩) n n) l]))→Hid (Below w.heap.size w w')→K (a.put o.dst (.slice (some ⟨g,0,none⟩) n n)) w') (hn:n=l.length:=by rfl)(hsm:n*La.k≤65536:=by omega):o.wp P a w K Q:=by
 have hle:n≤65536:=Nat.le_trans (Nat.le_mul_of_pos_right n La.pos) hsm;have h4:=h _ w.heap.size (zH (HK.out.mkS La l n hn hle)) (zH ((Below.refl _ w).alloc (Nat.le_refl _) _));have hr:=La.run_mk w l vs hv n hn hsm _ hp;exact acA
theorem kM(HK:Hid (Kn b0 w0 w L R))
  (h:∀w' g,Hid (Kn b0 w0 w' L (R++[row La (.slice (some ⟨g,0,none⟩) 0 0) []]))→wpList P ops Q rest (a.put o.dst (.slice (some ⟨g,0,none⟩) 0 0)) w') (hgd:o.guard=none:=by rfl)(ho:o.op=.buildSlice La.t 0 #[]:=by rfl):wpList P ops Q (o::rest) a w:=
 wpList_plain hgd fun _ hK=>uT La HK [] 0 #[] ho [] (by simp) rfl fun w' g h1 _=>hK _ _ (h w' g h1)
theorem dM{p:α}(HK:Hid (Kn b0 w0 w L R)){x:Operand}{v:Value}
  (h:∀w' g,Hid (Kn b0 w0 w' L (R++[row La (.slice (some ⟨g,0,none⟩) 1 1) [p]]))→wpList P ops Q rest (a.put o.dst (.slice (some ⟨g,0,none⟩) 1 1)) w') (hk:La.k≤65536:=by decide)(hgd:o.guard=none:=by rfl)(ho:o.op=.buildSlice La.t 1 #[(0,x)]:=by rfl)(hx:a.eval x=v:=by rfl)(hv:v.cells.toList=La.f p:=by rfl):wpList P ops Q (o::rest) a w:=
 wpList_plain hgd fun _ hK=>uT La HK [p] 1 _ ho [v] (by simp[hx]) (by simp[hv]) fun w' g h1 _=>hK _ _ (h w' g h1)
theorem jV(HK:Hid (Kn b0 w0 w L R))
  (h:∀w' g,Hid (Kn b0 w0 w' L (R++[row La (.slice (some ⟨g,0,none⟩) 0 0) []]))→Hid (Below w.heap.size w w')→K (a.put o.dst (.slice (some ⟨g,0,none⟩) 0 0)) w') (hgd:o.guard=none:=by rfl)(ho:o.op=.buildSlice La.t 0 #[]:=by rfl):if Region.wanted o (yielded ops a.tmps)=true then Oper.wp P o a w K Q else E:=by
 rw[if_pos (by simp[Region.wanted,hgd])];exact uT La HK [] 0 #[] ho [] (by simp) rfl h
theorem bP{p:α}(HK:Hid (Kn b0 w0 w L R)){x:Operand}{v:Value}
  (h:∀w' g,Hid (Kn b0 w0 w' L (R++[row La (.slice (some ⟨g,0,none⟩) 1 1) [p]]))→Hid (Below w.heap.size w w')→K (a.put o.dst (.slice (some ⟨g,0,none⟩) 1 1)) w') (hk:La.k≤65536:=by decide)(hgd:o.guard=none:=by rfl)(ho:o.op=.buildSlice La.t 1 #[(0,x)]:=by rfl)(hx:a.eval x=v:=by rfl)(hv:v.cells.toList=La.f p:=by rfl):if Region.wanted o (yielded ops a.tmps)=true then Oper.wp P o a w K Q else E:=by
 rw[if_pos (by simp[Region.wanted,hgd])];exact uT La HK [p] 1 _ ho [v] (by simp[hx]) (by simp[hv]) h
theorem aM(HK:Hid (Kn b0 w0 w L R))(j:Nat){s:Operand}{x:Operand}
  {v:Value} {l:List α}   (m:List α) {A:Option Addr} {n c B:Nat}  (hn:n=m.length) (hI:Hid (La.Reads w B A m∧(A=none→m=[])))
  (hl:Hid (l.length+m.length≤9223372036854775807∧(l.length+m.length)*La.bytes≤211106232532992))
  {N:Nat} (hN:Hid ((l++m).length=N)) (h:∀A' c' w',Hid (Kn b0 w0 w' L (R.set j (row La (.slice A' N c') (l++m))))→K (a.put o.dst (.slice A' N c')) w') (hgd:o.guard=none:=by rfl)(ho:o.op=.call { callee:=.builtin .append,args:=#[s,x],argTypes:=#[La.t,La.t] }:=by rfl)(hR:R[j]?=some (row La v l):=by rfl)(hs:a.eval s=v:=by rfl)(hx:a.eval x=.slice A n c:=by rfl):if Region.wanted o (yielded ops a.tmps)=true then Oper.wp P o a w K Q else E:=by
 rw[if_pos (by simp[Region.wanted,hgd])];exact Ic HK La j s x ho hR hs m hx hn hI hl hN h
structure RP(La:Lay P α) where
 tt:TypeId
 und:P.underlying tt=some (.slice La.t)
 info:(P.info? La.t).map (fun i=>(i.zero,i.size))=some (some (.slice none 0 0),1)
theorem RP.run(N:RP La)(w:World)(vs:List Value)(hv:∀v∈vs,v.cells=#[v])(n:Nat)(hn:n=vs.length)(h0:0<n)(hsm:n≤65536)(parts:Array (Nat×Value))(hp:parts.toList=(vs.zipIdx 0).map fun x=>(x.2,x.1)):
  (Instr.buildSlice N.tt n parts).run P w=.ok (.slice (some ⟨w.heap.size,0,none⟩) n n) (w.alloc (.cells vs.toArray La.t)):=by
 have hi:=N.info
 cases hq:P.info? La.t with
 | none=>simp[hq] at hi
 | some i0=>
  simp only[hq,Option.map_some,Option.some.injEq,Prod.mk.injEq] at hi;obtain⟨hz0,hz1⟩:=hi;refine Go.run_buildSlice w N.tt La.t n parts _ i0 _ N.und hq hz0 (by rw[hz1];omega) (by rw[hz1];omega) ?_;rw[hp,hz1];exact Great.fill_flat vs _ hv (by simp[hn])
theorem NU(N:RP La)(HK:Hid (Kn b0 w0 w L R))(n:Nat){parts:Array (Nat×Operand)}(ho:o.op=.buildSlice N.tt n parts)(vs:List Value)(hp:(parts.map fun(i,x)=>(i,a.eval x)).toList=(vs.zipIdx 0).map fun x=>(x.2,x.1))(hn:n=vs.length)
  (h:∀w' g,Hid (Kn b0 w0 w' (L++[(g,La.t,vs.toArray)]) R)→Hid (Below w.heap.size w w')→K (a.put o.dst (.slice (some ⟨g,0,none⟩) n n)) w') (hv:∀v∈vs,v.cells=#[v]:=by simp[Value.cells])(h0:0<n:=by decide)(hsm:n≤65536:=by decide):o.wp P a w K Q:=by
 have h4:=h _ w.heap.size (zH (HK.out.alloc La.t vs.toArray)) (zH ((Below.refl _ w).alloc (Nat.le_refl _) _));have hr:=N.run La w vs hv n hn h0 hsm _ hp;exact acA
variable (N:RP La){A A2 A3:Option Addr}{n c n2 c2 n3 c3:Nat}
theorem CU(HK:Hid (Kn b0 w0 w L R)){x:Operand}{y:Operand}
  (h:∀w' g,Hid (Kn b0 w0 w' (L++[(g,La.t,#[.slice A n c,.slice A2 n2 c2])]) R)→Hid (Below w.heap.size w w')→K (a.put o.dst (.slice (some ⟨g,0,none⟩) 2 2)) w') (hgd:o.guard=none:=by rfl)(ho:o.op=.buildSlice N.tt 2 #[(0,x),(1,y)]:=by rfl)(hx:a.eval x=.slice A n c:=by rfl)(hy:a.eval y=.slice A2 n2 c2:=by rfl):if Region.wanted o (yielded ops a.tmps)=true then Oper.wp P o a w K Q else E:=by
 rw[if_pos (by simp[Region.wanted,hgd])];exact NU La N HK 2 ho [.slice A n c,.slice A2 n2 c2] (by simp[hx,hy]) rfl h
end
def gY{P:Program}{α:Type}(La:Lay P α)(r:List α)(w:World)(e:Ending)(w':World):Prop:=∃A n c,e=.returned (.slice A n c)∧La.Own w.heap.size w' (.slice A n c) r∧Below w.heap.size w w'
def uI{P:Program}{α:Type}(La:Lay P α)(b:Nat)(w:World)(A:Option Addr)(n c:Nat)(l:List α)(A':Option Addr)(n' c':Nat)(r:List α):Prop:=La.Own b w (.slice A' n' c') r∨(A'=A∧n'=n∧c'=c∧r=l)
section
variable {P:Program}{α:Type}{La:Lay P α}{F:α→Prop}{b0:Nat}{w0 w w':World}{L:List (Nat×TypeId×Array Value)}{R:List bV}
structure Pce(α:Type) where
 A:Option Addr
 n:Nat
 c:Nat
 l:List α
def lI{α:Type}(ps:List (Pce α)):List α:=ps.flatMap (·.l)
theorem DN{α:Type}{ps:List (Pce α)}{k:Nat}{p:Pce α}(h:ps[k]?=some p):lI (ps.take (k+1))=lI (ps.take k)++p.l:=by
 unfold lI;exact acy
theorem abH{α:Type}(ps:List (Pce α))(k:Nat):(lI (ps.take k)).length≤(lI ps).length:=by
 have h:lI ps=lI (ps.take k)++lI (ps.drop k):=by unfold lI;rw[← List.flatMap_append,List.take_append_drop]
 rw[h,List.length_append];omega
def Joins(P:Program)(f:FuncId)(La:Lay P α)(F:α→Prop):Prop:=∀(g m:Nat) (ps:List (Pce α)) (w:World),ps.length=m→m≤8→g<w.heap.size→(∀i p,ps[i]?=some p→w.cell? ⟨g,i,none⟩=some (.slice p.A p.n p.c))→
 (∀p∈ps,bT La F w p.A p.n p.c p.l)→(lI ps).length*La.bytes≤140737488355328→Calls P f #[.slice (some ⟨g,0,none⟩) m m] w (gY La (lI ps) w)
variable {f:FuncId}{g:Nat}{A1 A2 A3:Option Addr}{n1 c1 n2 c2 n3 c3:Nat}{l1 l2 l3:List α}
theorem Joins.one(J:Joins P f La F)(HK:Hid (Kn b0 w0 w L R))(i:Nat)(hL:L[i]?=some (g,La.t,#[.slice A1 n1 c1]))(h1:bT La F w A1 n1 c1 l1):
  Calls P f #[.slice (some ⟨g,0,none⟩) 1 1] w (gY La l1 w):=by
 have h:=J g 1 [⟨A1,n1,c1,l1⟩] w rfl (by decide) (HK.out.blk i hL).lt (fun j p hp=>by
  match j,hp with
  | 0,hp=>simp at hp;subst hp;exact HK.out.cell i hL 0 rfl) (fun p hp=>by
   rw[List.mem_singleton] at hp;subst hp;exact h1) (by
   show(l1++[]).length*_≤_
   rw[List.append_nil];exact h1.fit.big)
 have e:lI [(⟨A1,n1,c1,l1⟩:Pce α)]=l1:=by show l1++[]=l1;rw[List.append_nil]
 rw[e] at h;exact h
theorem Joins.two(J:Joins P f La F)(HK:Hid (Kn b0 w0 w L R))(i:Nat)(hL:L[i]?=some (g,La.t,#[.slice A1 n1 c1,.slice A2 n2 c2]))(h1:bT La F w A1 n1 c1 l1)(h2:bT La F w A2 n2 c2 l2)(ht:(n1+n2)*La.bytes≤140737488355328):
  Calls P f #[.slice (some ⟨g,0,none⟩) 2 2] w (gY La (l1++l2) w):=by
 have h:=J g 2 [⟨A1,n1,c1,l1⟩,⟨A2,n2,c2,l2⟩] w rfl (by decide) (HK.out.blk i hL).lt (fun j p hp=>by
  match j,hp with
  | 0,hp=>simp at hp;subst hp;exact HK.out.cell i hL 0 rfl
  | 1,hp=>simp at hp;subst hp;exact HK.out.cell i hL 1 rfl) (fun p hp=>by
   simp only[List.mem_cons,List.not_mem_nil,or_false] at hp
   rcases hp with rfl|rfl
   ·exact h1
   ·exact h2) (by
   show(l1++(l2++[])).length*_≤_
   rw[List.append_nil,List.length_append,h1.len,h2.len];exact ht)
 have e:lI [(⟨A1,n1,c1,l1⟩:Pce α),⟨A2,n2,c2,l2⟩]=l1++l2:=by show l1++(l2++[])=_;rw[List.append_nil]
 rw[e] at h;exact h
theorem Et{α:Type}[DecidableEq α]{a b:List α}{n:Nat}(ha:a.length=n)(hb:b.length=n):(∀i x y,i<n→a[i]?=some x→b[i]?=some y→¬x=y→decide (a=b)=false)∧((∀i,i<n→a[i]?=b[i]?)→decide (a=b)=true):=by
 refine⟨fun i x y hi hx hy hne=>decide_eq_false fun h=>?_,fun h=>decide_eq_true (List.ext_getElem? fun i=>?_)⟩
 ·subst h
  rw[hx] at hy;injection hy with hy;exact hne hy
 ·by_cases hi:i<n
  ·exact h i hi
  ·rw[List.getElem?_eq_none (by omega),List.getElem?_eq_none (by omega)]
theorem dN{l m:List α}{N:Nat}(h:Hid ((l++m).length=N))(hB:N*La.bytes≤211106232532992:=by have:=FY.out;show _*72≤_;omega)(hN:N≤9223372036854775807:=by omega):Hid (l.length+m.length≤9223372036854775807∧(l.length+m.length)*La.bytes≤211106232532992):=by
 have e:=h.out;rw[List.length_append] at e;exact zH ⟨by rw[e];exact hN,by rw[e];exact hB⟩
end
end
section
open Go.ChangeShapes Go.WideShapes Go.Deep Go.RowKit
theorem VG:(prog.info? 26).map (fun i=>(i.zero,i.size,i.bytes))=some (some (Value.agg #[.int .i64 0,.int .i64 0,.int .u64 0,.string ⟨#[]⟩]),4,40):=by kernel_rfl
def bG:Lay prog Val.V where
 t:=70
 e:=26
 k:=4
 bytes:=40
 z:=.agg #[.int .i64 0,.int .i64 0,.int .u64 0,.string ⟨#[]⟩]
 f:=vaL
 len:=fun _=>rfl
 one:=fun x u hu=>by
  unfold vaL at hu;simp only[List.mem_cons,List.not_mem_nil,or_false] at hu
  rcases hu with rfl|rfl|rfl|rfl<;>rfl
 und:=underlying70
 info:=VG
 zs:=rfl
 pos:=by decide
 small:=by decide
def vF(v:Val.V):Prop:=v.f<18446744073709551616
section
variable {w:World}{o:Oper}{a:Act}
theorem BL{b off:Nat}{k n:Int}{f:Nat}{s:ByteArray}{p:Operand}(hc:∀j v,(vaL ⟨k,n,f,s⟩)[j]?=some v→w.cell? ⟨b,off+j,none⟩=some v)(ho:o.op=.load 26 p:=by rfl)(hx:a.eval p=.pointer (some ⟨b,off,none⟩):=by rfl):
  (execOp a.eval o).run prog w=.ok (.value (.agg #[.int .i64 k,.int .i64 n,.int .u64 (f:Int),.string s])) w:=
 fI bG (x:=⟨k,n,f,s⟩) (p:=p) (ho:=ho) (hx:=hx) underlying26 hc
theorem IJ{b off:Nat}{k n:Int}{f:Nat}{s:ByteArray}{p:Operand}(hc:∀j v,(vaL ⟨k,n,f,s⟩)[j]?=some v→w.cell? ⟨b,off+j,none⟩=some v)(ho:o.op=.load 3 p:=by rfl)(hx:a.eval p=.pointer (some ⟨b,off,none⟩):=by rfl):
  (execOp a.eval o).run prog w=.ok (.value (.int .i64 k)) w:=
 dQ p (ho:=ho) (hx:=hx) (hc 0 _ rfl) underlying3
theorem WQ{b off n c i:Nat}{x:Operand}{q:Operand}(ho:o.op=.indexAddr 70 x q)(hx:a.eval x=.slice (some ⟨b,off,none⟩) n c)(hq:a.eval q=.int .i64 (i:Int))(h:i<n):
  (execOp a.eval o).run prog w=.ok (.value (.pointer (some ⟨b,off+i*4,none⟩))) w:=dZ bG (x:=x) (q:=q) (ho:=ho) (hx:=hx) (hq:=hq) h
theorem WI{A:Option Addr}{n c lo:Nat}{x:Operand}{p:Operand}(ho:o.op=.slice 70 x (some p) none none)(hx:a.eval x=.slice A n c)(hp:a.eval p=.int .i64 (lo:Int))(h1:lo≤n):
  (execOp a.eval o).run prog w=.ok (.value (.slice (mE 4 A lo c) (n-lo) (c-lo))) w:=kT bG x p (ho:=ho) (hx:=hx) (hp:=hp) h1
end
section
variable {H:Type}{enc:TypeId×Value→H}{W:World}{base:Nat}
theorem yj:prog.bytesOf 26=40:=by kernel_rfl
theorem Di:Opens enc bG (fun v _=>vF v):=fun W n cs x ht=>by
 obtain⟨v,h1,h2⟩:=mo (enc:=enc) W n cs x ht;exact⟨v,h1,h2⟩
theorem Lift.Given.vals{ts:List TypeId}{args:List Value}{ds:List (DataW H)}{before:List MemPlace}(h:Lift.Given enc prog (70::ts) W base args ds before):
  ∃(A:Option Addr) (c:Nat) (l:List Val.V) (vs:List Value) (d:DataW H) (ds':List (DataW H)) (q:List MemPlace),args=.slice A l.length c::vs∧ds=d::ds'∧bT bG vF W A l.length c l∧Lift.Given enc prog ts W base vs ds' q:=by
 obtain⟨A,c,l,vs,d,ds',q,h1,h2,h3,h4,h5,h6,_,h8,h9⟩:=h.things (L:=bG) Di oV yj;have hb:l.length*40≤reachBytes:=h6;refine⟨A,c,l,vs,d,ds',q,h1,h2,⟨rfl,h8,h3,h4,fun x hx=>?_,?_⟩,h9⟩
 ·obtain⟨dx,g,_⟩:=h5 x hx
  exact g
 ·have:reachBytes=140737488351232:=rfl
  show l.length*40≤_
  omega
end
end
section
open Go.ChangeShapes Go.WideShapes Go.Deep Go.RowKit
def Zp(x:Rf):List Value:=[.int .i64 x.c,.int .i64 x.e,.int .i64 x.r]
def rfC(c e r:Int):Array Value:=#[.int .i64 c,.int .i64 e,.int .i64 r]
theorem VL:(prog.info? 44).map (fun i=>(i.zero,i.size,i.bytes))=some (some (Value.agg #[.int .i64 0,.int .i64 0,.int .i64 0]),3,24):=by kernel_rfl
theorem VN:(prog.info? 44).map (·.size)=some 3:=by kernel_rfl
def aN:Lay prog Rf where
 t:=71
 e:=44
 k:=3
 bytes:=24
 z:=.agg #[.int .i64 0,.int .i64 0,.int .i64 0]
 f:=Zp
 len:=fun _=>rfl
 one:=fun x u hu=>by
  unfold Zp at hu;simp only[List.mem_cons,List.not_mem_nil,or_false] at hu
  rcases hu with rfl|rfl|rfl<;>rfl
 und:=underlying71
 info:=VL
 zs:=rfl
 pos:=by decide
 small:=by decide
def rF(_:Rf):Prop:=True
def rv(x:Rf):Value:=.agg #[.int .i64 x.c,.int .i64 x.e,.int .i64 x.r]
section
variable {w:World}{o:Oper}{a:Act}
theorem cZ{b off:Nat}{x:Rf}{p:Operand}(hc:∀j v,(Zp x)[j]?=some v→w.cell? ⟨b,off+j,none⟩=some v)(ho:o.op=.load 44 p:=by rfl)(hx:a.eval p=.pointer (some ⟨b,off,none⟩):=by rfl):
  (execOp a.eval o).run prog w=.ok (.value (.agg #[.int .i64 x.c,.int .i64 x.e,.int .i64 x.r])) w:=
 fI aN (x:=x) (p:=p) (ho:=ho) (hx:=hx) underlying44 hc
theorem mY{b off:Nat}{x:Rf}{p:Operand}(hc:∀j v,(Zp x)[j]?=some v→w.cell? ⟨b,off+j,none⟩=some v)(ho:o.op=.load 3 p:=by rfl)(hx:a.eval p=.pointer (some ⟨b,off,none⟩):=by rfl):
  (execOp a.eval o).run prog w=.ok (.value (.int .i64 x.c)) w:=
 dQ p (ho:=ho) (hx:=hx) (hc 0 _ rfl) underlying3
theorem dA{b off n c i:Nat}{x:Operand}{q:Operand}(h:i<n)(ho:o.op=.indexAddr 71 x q:=by rfl)(hx:a.eval x=.slice (some ⟨b,off,none⟩) n c:=by rfl)(hq:a.eval q=.int .i64 (i:Int):=by rfl):
  (execOp a.eval o).run prog w=.ok (.value (.pointer (some ⟨b,off+i*3,none⟩))) w:=dZ aN (x:=x) (q:=q) (ho:=ho) (hx:=hx) (hq:=hq) h
theorem Iz{A:Option Addr}{n c lo:Nat}{x:Operand}{p:Operand}(h1:lo≤n)(ho:o.op=.slice 71 x (some p) none none:=by rfl)(hx:a.eval x=.slice A n c:=by rfl)(hp:a.eval p=.int .i64 (lo:Int):=by rfl):
  (execOp a.eval o).run prog w=.ok (.value (.slice (mE 3 A lo c) (n-lo) (c-lo))) w:=kT aN x p (ho:=ho) (hx:=hx) (hp:=hp) h1
theorem BI{A:Option Addr}{n c hi:Nat}{x:Operand}{q:Operand}(h2:hi≤c)(ho:o.op=.slice 71 x none (some q) none:=by rfl)(hx:a.eval x=.slice A n c:=by rfl)(hq:a.eval q=.int .i64 (hi:Int):=by rfl):
  (execOp a.eval o).run prog w=.ok (.value (.slice A hi c)) w:=BJ aN x q ho hx hq h2
theorem Np(v u:Rf):decide (v=u)=(decide (v.c=u.c)&&decide (v.e=u.e)&&decide (v.r=u.r)):=by
 obtain⟨c,e,r⟩:=v;obtain⟨c',e',r'⟩:=u;rw[Bool.eq_iff_iff];simp[and_assoc]
theorem IE{v u:Rf}{b:Bool}{p:Operand}{q:Operand}(hb:decide (v=u)=b)(ho:o.op=.binOp .eql 44 p q 44:=by rfl)(hx:a.eval p=.agg #[.int .i64 v.c,.int .i64 v.e,.int .i64 v.r]:=by rfl)(hy:a.eval q=.agg #[.int .i64 u.c,.int .i64 u.e,.int .i64 u.r]:=by rfl):
  (execOp a.eval o).run prog w=.ok (.value (.bool b)) w:=by
 rw[Np] at hb;subst hb;unfold execOp;simp only[ho,hx,hy];go_simp;by_cases h1:v.c=u.c<;>by_cases h2:v.e=u.e<;>by_cases h3:v.r=u.r<;>simp[h1,h2,h3]
theorem IC{v u:Rf}{b:Bool}{p:Operand}{q:Operand}(hb:(!decide (v=u))=b)(ho:o.op=.binOp .neq 44 p q 44:=by rfl)(hx:a.eval p=.agg #[.int .i64 v.c,.int .i64 v.e,.int .i64 v.r]:=by rfl)(hy:a.eval q=.agg #[.int .i64 u.c,.int .i64 u.e,.int .i64 u.r]:=by rfl):
  (execOp a.eval o).run prog w=.ok (.value (.bool b)) w:=by
 rw[Np] at hb;subst hb;unfold execOp;simp only[ho,hx,hy];go_simp;by_cases h1:v.c=u.c<;>by_cases h2:v.e=u.e<;>by_cases h3:v.r=u.r<;>simp[h1,h2,h3]
end
section
variable {b0:Nat}{w0 w:World}{L:List (Nat×TypeId×Array Value)}{R:List bV}{ops:Array Oper}{rest:List Oper}{o:Oper}{a:Act}{Q:Exit→Act→World→Prop}{K:Act→World→Prop}{E:Prop}{g:Nat}{c e r c2 e2 r2:Int}
theorem bR(HK:Hid (Kn b0 w0 w L R))
  (h:∀w' g,Hid (Kn b0 w0 w' (L++[(g,44,#[.int .i64 0,.int .i64 0,.int .i64 0])]) R)→wpList prog ops Q rest (a.put o.dst (.pointer (some ⟨g,0,none⟩))) w') (hgd:o.guard=none:=by rfl)(ho:o.op=.alloc 44:=by rfl):wpList prog ops Q (o::rest) a w:=
 lZ aN HK hgd ho h
theorem bW(HK:Hid (Kn b0 w0 w L R))(i:Nat){p:Operand}{q:Operand}
  (h:∀w',Hid (Kn b0 w0 w' (L.set i (g,44,#[.int .i64 c2,.int .i64 e2,.int .i64 r2])) R)→wpList prog ops Q rest (a.put o.dst undef) w') (hgd:o.guard=none:=by rfl)(ho:o.op=.store 44 p q:=by rfl)(hL:L[i]?=some (g,44,#[.int .i64 c,.int .i64 e,.int .i64 r]):=by rfl)(hx:a.eval p=.pointer (some ⟨g,0,none⟩):=by rfl)(hy:a.eval q=.agg #[.int .i64 c2,.int .i64 e2,.int .i64 r2]:=by rfl):wpList prog ops Q (o::rest) a w:=
 lY aN (p2:=⟨c2,e2,r2⟩) HK i hgd p q ho hL hx hy h
theorem zn(HK:Hid (Kn b0 w0 w L R))(i:Nat){p:Operand}{q:Operand}
  (h:∀w',Hid (Kn b0 w0 w' (L.set i (g,44,#[.int .i64 c2,.int .i64 e2,.int .i64 r2])) R)→K (a.put o.dst undef) w') (hgd:o.guard=none:=by rfl)(ho:o.op=.store 44 p q:=by rfl)(hL:L[i]?=some (g,44,#[.int .i64 c,.int .i64 e,.int .i64 r]):=by rfl)(hx:a.eval p=.pointer (some ⟨g,0,none⟩):=by rfl)(hy:a.eval q=.agg #[.int .i64 c2,.int .i64 e2,.int .i64 r2]:=by rfl):if Region.wanted o (yielded ops a.tmps)=true then Oper.wp prog o a w K Q else E:=
 Nh aN (p2:=⟨c2,e2,r2⟩) HK i hgd p q ho hL rfl hx hy h
theorem aP(HK:Hid (Kn b0 w0 w L R))(i:Nat){x:Operand}(ho:o.op=.load 44 x:=by rfl)(hL:L[i]?=some (g,44,#[.int .i64 c,.int .i64 e,.int .i64 r]):=by rfl)(hx:a.eval x=.pointer (some ⟨g,0,none⟩):=by rfl):
  (execOp a.eval o).run prog w=.ok (.value (.agg #[.int .i64 c,.int .i64 e,.int .i64 r])) w:=
 oC aN (p:=⟨c,e,r⟩) underlying44 HK i (x:=x) (ho:=ho) (hL:=hL) (hx:=hx)
theorem jN(HK:Hid (Kn b0 w0 w L R))(i:Nat){x:Operand}(ho:o.op=.load 3 x:=by rfl)(hL:L[i]?=some (g,44,#[.int .i64 c,.int .i64 e,.int .i64 r]):=by rfl)(hx:a.eval x=.pointer (some ⟨g,0,none⟩):=by rfl):
  (execOp a.eval o).run prog w=.ok (.value (.int .i64 c)) w:=
 aT HK 3 x ho i hL hx (v:=.int .i64 c) underlying3
theorem QL(HK:Hid (Kn b0 w0 w L R))(i:Nat){x:Operand}(ho:o.op=.load 3 x)(hL:L[i]?=some (g,44,#[.int .i64 c,.int .i64 e,.int .i64 r]))(hx:a.eval x=.pointer (some ⟨g,1,none⟩)):
  (execOp a.eval o).run prog w=.ok (.value (.int .i64 e)) w:=
 aT HK 3 x ho i hL hx (v:=.int .i64 e) underlying3
end
section
variable {fn:Func}{R:Ending→World→Prop}{a:Act}{w:World}{B:Nat}{c e r:Int}{u z y:Value}{q q2 q3 q4:Tmp}
theorem Bf(hb:eT w B 44 (rfC c e r)):(loadVar 44 ⟨B,0,none⟩).run prog w=.ok (.agg #[.int .i64 c,.int .i64 e,.int .i64 r]) w:=
 run_loadVar_row (P:=prog) w B _ _ _ (0,0) _ hb underlying44 rfl VN
theorem aij(hf:fn.results=#[.cell q 44])(h2:a.tmps[q]?=some (.pointer (some ⟨B,0,none⟩)))(hd:a.defers=[])(hb:eT w B 44 (rfC c e r))
  (hR:R (.returned (.agg #[.int .i64 c,.int .i64 e,.int .i64 r])) w):bodyPost prog fn R Exit.ret a w:=by
 refine bodyPost_ret (v:=.agg #[.int .i64 c,.int .i64 e,.int .i64 r]) ?_ hd hR;simp[results,hf,asAddr,Sem.run_bind,h2,Bf hb]
theorem zw(hf:fn.results=#[.tmp q2,.cell q 44,.tmp q3])(hb:eT w B 44 (rfC c e r))
  (hR:R (.returned (.tuple #[u,.agg #[.int .i64 c,.int .i64 e,.int .i64 r],z])) w) (h2:a.tmps[q]?=some (.pointer (some ⟨B,0,none⟩)):=by rfl)(h3:a.tmps[q2]?=some u:=by rfl)(h4:a.tmps[q3]?=some z:=by rfl)(hd:a.defers=[]:=by rfl):bodyPost prog fn R Exit.ret a w:=by
 refine bodyPost_ret (v:=.tuple #[u,.agg #[.int .i64 c,.int .i64 e,.int .i64 r],z]) ?_ hd hR;simp[results,hf,asAddr,Sem.run_bind,h2,h3,h4,Bf hb]
theorem rT(hf:fn.results=#[.tmp q2,.cell q 44,.tmp q3,.tmp q4])(hb:eT w B 44 (rfC c e r))
  (hR:R (.returned (.tuple #[u,.agg #[.int .i64 c,.int .i64 e,.int .i64 r],z,y])) w) (h2:a.tmps[q]?=some (.pointer (some ⟨B,0,none⟩)):=by rfl)(h3:a.tmps[q2]?=some u:=by rfl)(h4:a.tmps[q3]?=some z:=by rfl)(h5:a.tmps[q4]?=some y:=by rfl)(hd:a.defers=[]:=by rfl):bodyPost prog fn R Exit.ret a w:=by
 refine bodyPost_ret (v:=.tuple #[u,.agg #[.int .i64 c,.int .i64 e,.int .i64 r],z,y]) ?_ hd hR;simp[results,hf,asAddr,Sem.run_bind,h2,h3,h4,h5,Bf hb]
end
section
variable {H:Type}{enc:TypeId×Value→H}{W:World}{base:Nat}
theorem sV:prog.cellsOf 44=3:=by kernel_rfl
theorem BS:prog.bytesOf 44=24:=by kernel_rfl
theorem AP:Opens enc aN (fun _ _=>True):=fun W n cs x ht=>by
 obtain⟨ys,m,_,hx,hlen,hyl,hf⟩:=DataW.trod_struct underlying44 ht;have hlen:cs.length=prog.cellsOf 44:=hlen;rw[sV] at hlen
 match cs,hlen,ys,hyl with
 | [v0,v1,v2],_,[y0,y1,y2],_=>
  have f0:=hf 0 _ rfl;have f1:=hf 1 _ rfl;have f2:=hf 2 _ rfl;simp only[List.getElem?_cons_zero,List.getElem?_cons_succ] at f0 f1 f2;obtain⟨a0,e0,_,_⟩:=DataW.trod_int underlying3 f0;obtain⟨a1,e1,_,_⟩:=DataW.trod_int underlying3 f1;obtain⟨a2,e2,_,_⟩:=DataW.trod_int underlying3 f2;cases e0;cases e1;cases e2;exact⟨⟨a0,a1,a2⟩,rfl,trivial⟩
theorem Lift.Given.refs{ts:List TypeId}{args:List Value}{ds:List (DataW H)}{before:List MemPlace}(h:Lift.Given enc prog (71::ts) W base args ds before):
  ∃(A:Option Addr) (c:Nat) (l:List Rf) (vs:List Value) (d:DataW H) (ds':List (DataW H)) (q:List MemPlace),args=.slice A l.length c::vs∧ds=d::ds'∧bT aN rF W A l.length c l∧Lift.Given enc prog ts W base vs ds' q:=by
 obtain⟨A,c,l,vs,d,ds',q,h1,h2,h3,h4,h5,h6,_,h8,h9⟩:=h.things (L:=aN) AP sV BS;have hb:l.length*24≤reachBytes:=h6;refine⟨A,c,l,vs,d,ds',q,h1,h2,⟨rfl,h8,h3,h4,fun x hx=>trivial,?_⟩,h9⟩;have:reachBytes=140737488351232:=rfl
 show l.length*24≤_
 omega
theorem Lift.Given.ref{ts:List TypeId}{args:List Value}{ds:List (DataW H)}{before:List MemPlace}(h:Lift.Given enc prog (44::ts) W base args ds before):
  ∃(x:Rf) (vs:List Value) (d:DataW H) (ds':List (DataW H)) (q:List MemPlace),args=.agg #[.int .i64 x.c,.int .i64 x.e,.int .i64 x.r]::vs∧ds=d::ds'∧Lift.Given enc prog ts W base vs ds' q:=by
 obtain⟨x,vs,d,ds',q,h1,h2,_,_,h5⟩:=h.thing (L:=aN) AP underlying44;exact⟨x,vs,d,ds',q,h1,h2,h5⟩
end
end
section
theorem Oa:(prog.info? 206).map (·.size)=some 16:=by kernel_rfl
theorem aeL{fn:Func}{R:Ending→World→Prop}{a:Act}{w:World}{B:Nat}{cs:Array Value}{q:Tmp}(hf:fn.results=#[.cell q 206])(h2:a.tmps[q]?=some (.pointer (some ⟨B,0,none⟩)))(hd:a.defers=[])(hb:eT w B 206 cs)(hs:cs.size=16)
  (hR:R (.returned (.agg cs)) w):bodyPost prog fn R Exit.ret a w:=
 bodyPost_ret (results_cell_row hf a.tmps w B _ _ (0,0) _ (by simp[h2]) hb underlying206 rfl (by rw[hs];exact Oa)) hd hR
theorem alA{w:World}{t1:TypeId}{t2:TypeId}{c1:Array Value}{c2:Array Value}:eT ((w.alloc (.cells c1 t1)).alloc (.cells c2 t2)) (w.heap.size+1) t2 c2:=by
 have h:=eT.new (w.alloc (.cells c1 t1)) t2 c2
 rwa [World.size_alloc] at h
theorem Tg(n:Int)(s l m:Nat)(w:World):
  Calls prog 144 #[.agg #[.int .i64 n,.int .u64 (s:Int),.int .u64 (l:Int),.int .u64 (m:Int)]] w (fun e w'=>e=.returned (.agg #[.int .i64 1,.int .i64 n,.int .u64 0,.string ⟨#[]⟩,.int .i64 2,.int .i64 0,.int .u64 (s:Int),.string ⟨#[]⟩,.int .i64 2,.int .i64 0,.int .u64 (l:Int),.string ⟨#[]⟩,.int .i64 2,.int .i64 0,.int .u64 (m:Int),.string ⟨#[]⟩])∧
   w'=(w.alloc (.cells #[.int .i64 n,.int .u64 (s:Int),.int .u64 (l:Int),.int .u64 (m:Int)] 73)).alloc (.cells #[.int .i64 1,.int .i64 n,.int .u64 0,.string ⟨#[]⟩,.int .i64 2,.int .i64 0,.int .u64 (s:Int),.string ⟨#[]⟩,.int .i64 2,.int .i64 0,.int .u64 (l:Int),.string ⟨#[]⟩,.int .i64 2,.int .i64 0,.int .u64 (m:Int),.string ⟨#[]⟩] 206)):=by
 go_enter func144,ntmps144;go_wp2_with fail;refine aeL (B:=w.heap.size+1) results144 rfl rfl (alA) rfl ⟨rfl,rfl⟩
end
end Go.Proofs.YtahdlddbbnjloaaGreat
