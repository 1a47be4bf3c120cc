/- Slices of things of one kind that were handed in, or are the call's own: what is known of them; places in them, parts of them. No condition but those named. -/
import Derived.Test.YtieoeendnccafaaGreatNAC
import Derived.Test.YtieoeendnccafaaGreatNAB
set_option linter.unusedSimpArgs false
set_option linter.unusedVariables false
set_option maxRecDepth 100000
set_option maxHeartbeats 25600000
open Go.RowKit
namespace Go.Proofs.YtieoeendnccafaaGreat
open _root_.Go.Proofs.Tryz
section
def vC(k n:Int)(f:Nat)(s:ByteArray):Array Value:=#[.int .i64 k,.int .i64 n,.int .u64 (f:Int),.string s]
theorem iT:(prog.info? 26).map (·.size)=some 4:=by kernel_rfl
theorem Yl:(prog.info? 3).map (·.size)=some 1:=by kernel_rfl
section
variable {b0:Nat}{w0 w:World}{L:List (Nat×TypeId×Array Value)}{R:List dA}{ops:Array Oper}{rest:List Oper}{o:Oper}{a:Act}{Q:Exit→Act→World→Prop}{g:Nat}{k n k2 n2:Int}{f f2:Nat}{s s2:ByteArray}
theorem aN(HK:Hid (Kn b0 w0 w L R))
  (h:∀w' g,Hid (Kn b0 w0 w' (L++[(g,26,vC 0 0 0 ⟨#[]⟩)]) R)→wpList prog ops Q rest (a.put o.dst (.pointer (some ⟨g,0,none⟩))) w') (hgd:o.guard=none:=by rfl)(ho:o.op=.alloc 26:=by rfl):wpList prog ops Q (o::rest) a w:=
 wpList_plain hgd fun K hK=>by
  have h4:=h _ w.heap.size (zH (HK.out.alloc _ _));unfold Oper.wp execOp;simp only[ho];unfold vC at h4;go_simp;exact hK _ _ h4
theorem aM(HK:Hid (Kn b0 w0 w L R))(i:Nat){p:Operand}{q:Operand}
  (h:∀w',Hid (Kn b0 w0 w' (L.set i (g,26,vC k2 n2 f2 s2)) R)→wpList prog ops Q rest (a.put o.dst undef) w') (hgd:o.guard=none:=by rfl)(ho:o.op=.store 26 p q:=by rfl)(hL:L[i]?=some (g,26,vC k n f s):=by rfl)(hx:a.eval p=.pointer (some ⟨g,0,none⟩):=by rfl)(hy:a.eval q=.agg #[.int .i64 k2,.int .i64 n2,.int .u64 (f2:Int),.string s2]:=by rfl):wpList prog ops Q (o::rest) a w:=
 jJ HK i hgd p q ho hL hx hy (by show 4≤4;decide) iT fun w' h1 h2=>h w' (by
  have e:putCells (vC k n f s) 0 (#[Value.int .i64 k2,.int .i64 n2,.int .u64 (f2:Int),.string s2]:Array Value).toList=vC k2 n2 f2 s2:=by
   show putCells (vC k n f s) 0 (vC k2 n2 f2 s2).toList=vC k2 n2 f2 s2
   exact Zp
  rw[e] at h1
  exact h1)
theorem bq(HK:Hid (Kn b0 w0 w L R))(i:Nat){x:Operand}(ho:o.op=.load 26 x:=by rfl)(hL:L[i]?=some (g,26,vC k n f s):=by rfl)(hx:a.eval x=.pointer (some ⟨g,0,none⟩):=by rfl):
  (execOp a.eval o).run prog w=.ok (.value (.agg #[.int .i64 k,.int .i64 n,.int .u64 (f:Int),.string s])) w:=
 dU HK x ho i hL hx (vC k n f s) (fun j _=>by rw[Nat.zero_add]) underlying26 iT
end
theorem aeZ{fn:Func}{R:Ending→World→Prop}{a:Act}{w:World}{B:Nat}{k n:Int}{f:Nat}{s:ByteArray}{q:Tmp}(hf:fn.results=#[.cell q 26])(h2:a.tmps[q]?=some (.pointer (some ⟨B,0,none⟩)))(hd:a.defers=[])(hb:gD w B 26 (vC k n f s))
  (hR:R (.returned (.agg #[.int .i64 k,.int .i64 n,.int .u64 (f:Int),.string s])) w):bodyPost prog fn R Exit.ret a w:=
 bodyPost_ret (results_cell_row hf a.tmps w B _ _ (0,0) _ (by simp[h2]) hb underlying26 rfl iT) hd hR
end
section
open Go.ChangeShapes Go.WideShapes Go.Deep Go.RowKit
section
variable {H:Type}{enc:TypeId×Value→H}{P:Program}{W:World}{base:Nat}{α:Type}
theorem ny{e:TypeId}{x:DataW H}{n:Nat}(hn:n∈x.weights P e):∀{l:List (DataW H)},x∈l→n∈DataW.weightsAll P e l
 | d::r,h=>by
  rw[DataW.weightsAll,List.mem_append]
  rcases List.mem_cons.1 h with rfl|h
  ·exact .inl hn
  ·exact .inr (ny hn h)
mutual
theorem VO:∀(d:DataW H),1≤Rows.uptoBulk d
 | .lit l=>by cases l<;>(unfold Rows.uptoBulk;omega)
 | .nil=>by unfold Rows.uptoBulk;omega
 | .ptr d=>by unfold Rows.uptoBulk;omega
 | .slice a b=>by unfold Rows.uptoBulk;omega
 | .agg a=>by unfold Rows.uptoBulk;omega
 | .iface _ d=>by unfold Rows.uptoBulk;omega
 | .map _=>by unfold Rows.uptoBulk;omega
 | .held _=>by unfold Rows.uptoBulk;omega
end
theorem tq:∀(l:List (DataW H)),l.length≤Rows.uptoBulkAll l
 | []=>Nat.zero_le _
 | d::r=>by
  rw[Rows.uptoBulkAll,List.length_cons];have:=VO d;have:=tq r;omega
theorem yS{d:DataW H}:∀{l:List (DataW H)},d∈l→Rows.uptoBulk d≤Rows.uptoBulkAll l
 | x::r,h=>by
  rw[Rows.uptoBulkAll]
  rcases List.mem_cons.1 h with rfl|h
  ·omega
  ·have:=yS h
   omega
def Opens(enc:TypeId×Value→H)(L:Lay P α)(Good:α→DataW H→Prop):Prop:=
 ∀(W:World) (n:Nat) (cs:List Value) (x:DataW H×List MemPlace),DataW.trod enc P W 0 (fun _=>true) true n L.e cs=some x→∃it:α,cs=L.f it∧Good it x.1
theorem Lift.Given.things{L:Lay P α}{Good:α→DataW H→Prop}(hop:Opens enc L Good)(hcells:P.cellsOf L.e=L.k)(hbytes:P.bytesOf L.e=L.bytes)
  {ts:List TypeId} {args:List Value} {ds:List (DataW H)} {before:List MemPlace} (h:Lift.Given enc P (L.t::ts) W base args ds before) :
  ∃(A:Option Addr) (c:Nat) (l:List α) (vs:List Value) (d:DataW H) (ds':List (DataW H)) (q:List MemPlace),args=.slice A l.length c::vs∧ds=d::ds'∧L.Reads W W.heap.size A l∧(A=none→l=[])∧
   (∀x∈l,∃dx,Good x dx∧(dx.weights P L.e).all (·≤reachBytes)=true∧Rows.uptoBulk dx≤Rows.uptoBulk d)∧l.length*L.bytes≤reachBytes∧l.length≤Rows.uptoBulk d∧l.length≤c∧Lift.Given enc P ts W base vs ds' q:=by
 obtain⟨v,vs,d,ds',p,q,rfl,rfl,rfl,h0,hok,_,hw,hg⟩:=h.cons;obtain⟨fuel,h0⟩:=h0;obtain⟨a0,qP,cap0,rfl⟩:=okWide_slice L.und hok
 rcases open_slice L.und h0 with ⟨hcs,hx⟩|⟨a,len,cap,m,n,D,Pl,hcs,_,hl,hm,hmm,hx,hi⟩
 ·simp[Value.cells] at hcs
  obtain⟨rfl,rfl,rfl⟩:=hcs;cases hx;exact⟨none,0,[],vs,_,ds',q,rfl,rfl,Lay.Reads.nil _ _ _,fun _=>rfl,(fun x hx=>by cases hx),by simp,Nat.zero_le _,Nat.zero_le _,hg⟩
 ·simp[Value.cells] at hcs
  obtain⟨rfl,rfl,rfl⟩:=hcs;simp only[if_true] at hmm;subst hmm;cases hx
  have hall:∀i,i<m→∃it:α,(∀j u,(L.f it)[j]?=some u→W.cell? ((a.add (i*L.k)).add j)=some u)∧Good it (D i):=fun i him=>by
   obtain⟨cs,hc,ht⟩:=hi i him;obtain⟨it,rfl,hg⟩:=hop W _ _ _ ht;exact abl
  by_cases h0:qP=0
  ·subst h0
   refine⟨some a,m,[],vs,_,ds',q,rfl,rfl,Lay.Reads.nil _ _ _,(fun h=>by cases h),(fun x hx=>by cases hx),by simp,Nat.zero_le _,Nat.zero_le _,hg⟩
  have:Inhabited α:=⟨(hall 0 (by omega)).choose⟩;obtain⟨f,hf⟩:=choose_lt hall;have hlen:((List.range qP).map f).length=qP:=by simp
  have hget:∀i x,((List.range qP).map f)[i]?=some x→i<qP∧x=f i:=fun i x hx=>by
   rw[List.getElem?_map] at hx;obtain⟨j,hj,rfl⟩:=Option.map_eq_some_iff.1 hx
   have hlt:i<qP:=by
    rcases Nat.lt_or_ge i qP with h|h
    ·exact h
    ·rw[List.getElem?_eq_none (by simpa using h)] at hj;cases hj
   rw[List.getElem?_range hlt] at hj;cases hj;exact⟨hlt,rfl⟩
  have hmem:∀x∈(List.range qP).map f,∃i,i<qP∧x=f i:=fun x hx=>by
   obtain⟨i,hi,rfl⟩:=List.mem_map.1 hx;exact⟨i,List.mem_range.1 hi,rfl⟩
  have hsome:∃u,W.cell? a=some u:=by
   exact abm
  obtain⟨u0,hu0⟩:=hsome
  have ha:a=⟨a.block,a.off,none⟩:=by
   obtain⟨b,o,sp⟩:=a
   cases sp with
   | none=>rfl
   | some z=>unfold World.cell? at hu0;split at hu0<;>simp at hu0
  have hW:(DataW.weights P L.t (.slice ((List.range qP).map D) ((List.range (m-qP)).map fun j=>D (qP+j)):DataW H)).all (·≤reachBytes)=true:=hw;unfold DataW.weights at hW;rw[L.und] at hW;simp only[List.all_cons,List.all_append,Bool.and_eq_true,decide_eq_true_eq,List.length_map,List.length_range,hbytes] at hW;obtain⟨hW1,hW2,_⟩:=hW;refine⟨some a,m,(List.range qP).map f,vs,_,ds',q,by rw[hlen],rfl,fun hp=>?_,(fun h=>by cases h),fun x hx=>?_,?_,?_,by rw[hlen];exact hl,hg⟩
  ·refine⟨a.block,a.off,by rw[← ha],World.block_lt_of_cell? W a hu0,fun i x hx j u hu=>?_⟩
   exact RF
  ·obtain⟨i,hi',rfl⟩:=hmem x hx
   have hD:D i∈(List.range qP).map D:=List.mem_map.2 ⟨i,List.mem_range.2 hi',rfl⟩;refine⟨D i,(hf i (by omega)).2,List.all_eq_true.2 fun n hn=>List.all_eq_true.1 hW2 n (ny hn hD),?_⟩;have:=yS hD;rw[Rows.uptoBulk];omega
  ·rw[hlen]
   exact Ro
  ·rw[hlen,Rows.uptoBulk]
   have:=tq ((List.range qP).map D);simp only[List.length_map,List.length_range] at this;omega
theorem Lift.Given.thing{L:Lay P α}{Good:α→DataW H→Prop}(hop:Opens enc L Good){fs:Array Field}(hs:P.underlying L.e=some (.struct fs))
  {ts:List TypeId} {args:List Value} {ds:List (DataW H)} {before:List MemPlace} (h:Lift.Given enc P (L.e::ts) W base args ds before) :
  ∃(x:α) (vs:List Value) (d:DataW H) (ds':List (DataW H)) (q:List MemPlace),args=.agg (L.f x).toArray::vs∧ds=d::ds'∧Good x d∧(d.weights P L.e).all (·≤reachBytes)=true∧Lift.Given enc P ts W base vs ds' q:=by
 obtain⟨v,vs,d,ds',p,q,rfl,rfl,rfl,h0,hok,_,hw,hg⟩:=h.cons;obtain⟨fuel,h0⟩:=h0;obtain⟨cs,rfl,hsz⟩:=okWide_struct hs hok;obtain⟨it,hit,hgd⟩:=hop W _ _ _ h0;refine⟨it,vs,d,ds',q,?_,rfl,hgd,hw,hg⟩;have hc:cs.toList=L.f it:=by simpa [Value.cells] using hit
 rw[← hc]
end
end
section
def cZ(b:Bool)(w:World)(e:Ending)(w':World):Prop:=e=.returned (.bool b)∧Below w.heap.size w w'
section
variable {w:World}{ops:Array Oper}{rest:List Oper}{o:Oper}{a:Act}{Q:Exit→Act→World→Prop}
theorem iI{j:Nat}{p:Operand}(h:j<9223372036854775807)(ho:o.op=.binOp .sub 3 p (.const (.int .i64 1)) 3:=by rfl)(hp:a.eval p=.int .i64 ((j+1:Nat):Int):=by rfl):
  (execOp a.eval o).run prog w=.ok (.value (.int .i64 (j:Int))) w:=by
 have hw:IntKind.i64.wrap (j:Int)=(j:Int):=by rw[IntKind.wrap_i64];omega
 exact Rw
theorem aL{j:Nat}{p:Operand}(h:j<9223372036854775807)(ho:o.op=.binOp .add 3 p (.const (.int .i64 1)) 3:=by rfl)(hp:a.eval p=.int .i64 (j:Int):=by rfl):
  (execOp a.eval o).run prog w=.ok (.value (.int .i64 ((j+1:Nat):Int))) w:=by
 have hw:IntKind.i64.wrap ((j:Int)+1)=(j:Int)+1:=by rw[IntKind.wrap_i64];omega
 exact Rw
theorem jh{ad:Addr}{v:Value}{ty:TypeId}{d:TypeDesc}(p:Operand)(ho:o.op=.load ty p)(hx:a.eval p=.pointer (some ad))(hc:w.cell? ad=some v)(hu:prog.underlying ty=some d)(hd:d.isRow=false:=by rfl):
  (execOp a.eval o).run prog w=.ok (.value v) w:=by
 have hagg:(isAgg ty).run prog w=.ok false w:=by
  unfold isAgg;rw[Sem.run_bind,run_underlying hu w];cases d<;>simp_all
 have h:(loadVar ty ad).run prog w=.ok v w:=by
  simp[loadVar,Sem.run_bind,hagg,hc]
 exact Ry
theorem abB{P:Program}{w:World}{v:Value}(hr:(execOp a.eval o).run P w=.ok (.value v) w)(hw:Region.wanted o (yielded ops a.tmps)=true)(h:wpList P ops Q rest (a.put o.dst v) w):wpList P ops Q (o::rest) a w:=
 au (hw:=hw) hr h
theorem zX{P:Program}{w:World}{v:Value}(hr:(execOp a.eval o).run P w=.ok (.value v) w)(h:wpList P ops Q rest (a.put o.dst v) w)(hw:Region.wanted o (yielded ops a.tmps)=true:=by rfl):wpList P ops Q (o::rest) a w:=au (hw:=hw) hr h
theorem dz{x k:Int}{b:Bool}{p:Operand}(hb:decide (k<x)=b)(ho:o.op=.binOp .gtr 3 p (.const (.int .i64 k)) 3:=by rfl)(hp:a.eval p=.int .i64 x:=by rfl):
  (execOp a.eval o).run prog w=.ok (.value (.bool b)) w:=by
 exact Rz
end
theorem kL{fn:Func}{R:Ending→World→Prop}{a:Act}{w:World}{u z:Value}{q q2:Tmp}(hf:fn.results=#[.tmp q,.tmp q2])
  (hR:R (.returned (.tuple #[u,z])) w) (h3:a.tmps[q]?=some u:=by rfl)(h4:a.tmps[q2]?=some z:=by rfl)(hd:a.defers=[]:=by rfl):bodyPost prog fn R Exit.ret a w:=by
 refine bodyPost_ret (v:=.tuple #[u,z]) ?_ hd hR;simp[results,hf,Sem.run_bind,h3,h4]
theorem iQ{fn:Func}{R:Ending→World→Prop}{a:Act}{w:World}{u z y:Value}{q q2 q3:Tmp}(hf:fn.results=#[.tmp q,.tmp q2,.tmp q3])
  (h3:a.tmps[q]?=some u:=by rfl)(h4:a.tmps[q2]?=some z:=by rfl)(h5:a.tmps[q3]?=some y:=by rfl)(hd:a.defers=[]:=by rfl)(hR:R (.returned (.tuple #[u,z,y])) w:=by have h:=Jm.out _ ah.out.b;rw[Nat.sub_self] at h ⊢;exact h):bodyPost prog fn R Exit.ret a w:=by
 refine bodyPost_ret (v:=.tuple #[u,z,y]) ?_ hd hR;simp[results,hf,Sem.run_bind,h3,h4,h5]
theorem fK{P:Program}{ops:Array Oper}{o:Oper}{a:Act}{w:World}{K:Act→World→Prop}{Q:Exit→Act→World→Prop}{E:Prop}{v:Value}(hr:(execOp a.eval o).run P w=.ok (.value v) w)(h:K (a.put o.dst v) w)(hw:Region.wanted o (yielded ops a.tmps)=true:=by rfl):
  if Region.wanted o (yielded ops a.tmps)=true then Oper.wp P o a w K Q else E:=by
 rw[if_pos hw];unfold Oper.wp;rw[hr,Oper.upon_value];exact h
end
section
section
variable {w:World}{ops:Array Oper}{rest:List Oper}{o:Oper}{a:Act}{Q:Exit→Act→World→Prop}
theorem zq(v u:Val.V):decide (v=u)=(decide (v.k=u.k)&&decide (v.n=u.n)&&decide ((v.f:Int)=(u.f:Int))&&decide (v.s.toList=u.s.toList)):=by
 obtain⟨k,n,f,s⟩:=v;obtain⟨k',n',f',s'⟩:=u;have e:(⟨k,n,f,s⟩:Val.V)=⟨k',n',f',s'⟩↔(k=k'∧n=n'∧f=f'∧s=s'):=by simp
 show decide ((⟨k,n,f,s⟩:Val.V)=⟨k',n',f',s'⟩)=(decide (k=k')&&decide (n=n')&&decide ((f:Int)=(f':Int))&&decide (s.toList=s'.toList))
 have e2:((f:Int)=(f':Int))↔f=f':=by omega
 have e4:s.toList=s'.toList↔s=s':=Val.Xt.symm;by_cases h:(⟨k,n,f,s⟩:Val.V)=⟨k',n',f',s'⟩
 ·obtain⟨rfl,rfl,rfl,rfl⟩:=e.1 h
  simp
 ·have h':=fun hh=>h (e.2 hh)
  rw[decide_eq_false h];by_cases h1:k=k'
  ·by_cases h2:n=n'
   ·by_cases h3:f=f'
    ·have h4:¬s=s':=fun h4=>h' ⟨h1,h2,h3,h4⟩
     rw[decide_eq_false (fun e5=>h4 (e4.1 e5))];simp
    ·rw[decide_eq_false (p:=(f:Int)=(f':Int)) (fun e5=>h3 (e2.1 e5))];simp
   ·rw[decide_eq_false h2];simp
  ·rw[decide_eq_false h1];simp
theorem Ij{v u:Val.V}{b:Bool}{p:Operand}{q:Operand}(hb:decide (v=u)=b)(ho:o.op=.binOp .eql 26 p q 26:=by rfl)(hx:a.eval p=.agg #[.int .i64 v.k,.int .i64 v.n,.int .u64 (v.f:Int),.string v.s]:=by rfl)(hy:a.eval q=.agg #[.int .i64 u.k,.int .i64 u.n,.int .u64 (u.f:Int),.string u.s]:=by rfl):
  (execOp a.eval o).run prog w=.ok (.value (.bool b)) w:=by
 rw[zq] at hb;subst hb;unfold execOp;simp only[ho,hx,hy];go_simp;by_cases h1:v.k=u.k<;>by_cases h2:v.n=u.n<;>by_cases h3:(v.f:Int)=(u.f:Int)<;>by_cases h4:v.s.toList=u.s.toList<;>simp[h1,h2,h3,h4]
theorem jF{v u:Val.V}{b:Bool}{p:Operand}{q:Operand}(hb:(!decide (v=u))=b)(ho:o.op=.binOp .neq 26 p q 26:=by rfl)(hx:a.eval p=.agg #[.int .i64 v.k,.int .i64 v.n,.int .u64 (v.f:Int),.string v.s]:=by rfl)(hy:a.eval q=.agg #[.int .i64 u.k,.int .i64 u.n,.int .u64 (u.f:Int),.string u.s]:=by rfl):
  (execOp a.eval o).run prog w=.ok (.value (.bool b)) w:=by
 rw[zq] at hb;subst hb;unfold execOp;simp only[ho,hx,hy];go_simp;by_cases h1:v.k=u.k<;>by_cases h2:v.n=u.n<;>by_cases h3:(v.f:Int)=(u.f:Int)<;>by_cases h4:v.s.toList=u.s.toList<;>simp[h1,h2,h3,h4]
end
theorem EA{fn:Func}{R:Ending→World→Prop}{a:Act}{w:World}{B:Nat}{k n:Int}{f:Nat}{s:ByteArray}{u:Value}{q q2:Tmp}(hf:fn.results=#[.cell q 26,.tmp q2])(hb:gD w B 26 (vC k n f s))
  (hR:R (.returned (.tuple #[.agg #[.int .i64 k,.int .i64 n,.int .u64 (f:Int),.string s],u])) w) (h2:a.tmps[q]?=some (.pointer (some ⟨B,0,none⟩)):=by rfl)(h3:a.tmps[q2]?=some u:=by rfl)(hd:a.defers=[]:=by rfl):bodyPost prog fn R Exit.ret a w:=by
 exact aeu
theorem iR{fn:Func}{R:Ending→World→Prop}{a:Act}{w:World}{B:Nat}{k n:Int}{f:Nat}{s:ByteArray}{u z:Value}{q q2 q3:Tmp}(hf:fn.results=#[.tmp q2,.cell q 26,.tmp q3])(hb:gD w B 26 (vC k n f s))
  (hR:R (.returned (.tuple #[u,.agg #[.int .i64 k,.int .i64 n,.int .u64 (f:Int),.string s],z])) w) (h2:a.tmps[q]?=some (.pointer (some ⟨B,0,none⟩)):=by rfl)(h3:a.tmps[q2]?=some u:=by rfl)(h4:a.tmps[q3]?=some z:=by rfl)(hd:a.defers=[]:=by rfl):bodyPost prog fn R Exit.ret a w:=by
 refine bodyPost_ret (v:=.tuple #[u,.agg #[.int .i64 k,.int .i64 n,.int .u64 (f:Int),.string s],z]) ?_ hd hR;have h:(loadVar 26 ⟨B,0,none⟩).run prog w=.ok (.agg (vC k n f s)) w:=run_loadVar_row (P:=prog) w B _ _ _ (0,0) _ hb underlying26 rfl iT;unfold vC at h;simp[results,hf,asAddr,Sem.run_bind,h2,h3,h4,h]
theorem tO{b0:Nat}{w0 w:World}{L:List (Nat×TypeId×Array Value)}{R:List dA}{ops:Array Oper}{o:Oper}{a:Act}{Q:Exit→Act→World→Prop}{K:Act→World→Prop}{E:Prop}{g:Nat}{k n k2 n2:Int}{f f2:Nat}{s s2:ByteArray}(HK:Hid (Kn b0 w0 w L R))(i:Nat){p:Operand}{q:Operand}
  (h:∀w',Hid (Kn b0 w0 w' (L.set i (g,26,vC k2 n2 f2 s2)) R)→K (a.put o.dst undef) w') (hgd:o.guard=none:=by rfl)(ho:o.op=.store 26 p q:=by rfl)(hL:L[i]?=some (g,26,vC k n f s):=by rfl)(hx:a.eval p=.pointer (some ⟨g,0,none⟩):=by rfl)(hy:a.eval q=.agg #[.int .i64 k2,.int .i64 n2,.int .u64 (f2:Int),.string s2]:=by rfl):if Region.wanted o (yielded ops a.tmps)=true then Oper.wp prog o a w K Q else E:=
 zu HK i hgd p q ho hL hx hy (hsz:=(by show 4≤4;decide)) iT fun w' h1 _=>h w' (by
  have e:putCells (vC k n f s) 0 (#[Value.int .i64 k2,.int .i64 n2,.int .u64 (f2:Int),.string s2]:Array Value).toList=vC k2 n2 f2 s2:=by
   show putCells (vC k n f s) 0 (vC k2 n2 f2 s2).toList=vC k2 n2 f2 s2
   exact Zp
  rw[e] at h1
  exact h1)
end
section
open Go.ChangeShapes Go.WideShapes Go.Deep Go.RowKit
section
variable {H:Type}{enc:TypeId×Value→H}{W:World}{base:Nat}{α:Type}
def nY(enc:TypeId×Value→H)(e:TypeId)(f:α→List Value)(Good:α→Prop):Prop:=
 ∀(W:World) (n:Nat) (cs:List Value) (x:DataW H×List MemPlace),DataW.trod enc prog W 0 (fun _=>true) true n e cs=some x→∃it:α,cs=f it∧Good it
theorem Lift.Given.one{e:TypeId}{f:α→List Value}{Good:α→Prop}(hop:nY enc e f Good){fs:Array Field}(hs:prog.underlying e=some (.struct fs))
  {ts:List TypeId} {args:List Value} {ds:List (DataW H)} {before:List MemPlace} (h:Lift.Given enc prog (e::ts) W base args ds before) :
  ∃(x:α) (vs:List Value) (d:DataW H) (ds':List (DataW H)) (q:List MemPlace),args=.agg (f x).toArray::vs∧ds=d::ds'∧Good x∧Lift.Given enc prog ts W base vs ds' q:=by
 obtain⟨v,vs,d,ds',p,q,rfl,rfl,rfl,h0,hok,_,hw,hg⟩:=h.cons;obtain⟨fuel,h0⟩:=h0;obtain⟨cs,rfl,hsz⟩:=okWide_struct hs hok;obtain⟨it,hit,hgd⟩:=hop W _ _ _ h0;refine⟨it,vs,d,ds',q,?_,rfl,hgd,hg⟩;have hc:cs.toList=f it:=by simpa [Value.cells] using hit
 rw[← hc]
end
end
section
open Go.ChangeShapes Go.WideShapes Go.Deep Go.RowKit
def vaL(v:Val.V):List Value:=[.int .i64 v.k,.int .i64 v.n,.int .u64 (v.f:Int),.string v.s]
section
variable {H:Type}{enc:TypeId×Value→H}{W:World}{base:Nat}{α:Type}
theorem yx:prog.cellsOf 26=4:=by kernel_rfl
theorem mW:nY enc 26 vaL (fun v=>v.f<18446744073709551616):=fun W n cs x ht=>by
 obtain⟨ys,m,_,hx,hlen,hyl,hf⟩:=DataW.trod_struct underlying26 ht;have hlen:cs.length=prog.cellsOf 26:=hlen;rw[yx] at hlen
 match cs,hlen,ys,hyl with
 | [v0,v1,v2,v3],_,[y0,y1,y2,y3],_=>
  have f0:=hf 0 _ rfl;have f1:=hf 1 _ rfl;have f2:=hf 2 _ rfl;have f3:=hf 3 _ rfl;simp only[List.getElem?_cons_zero,List.getElem?_cons_succ] at f0 f1 f2 f3;obtain⟨a0,e0,_,_⟩:=DataW.trod_int underlying3 f0;obtain⟨a1,e1,_,_⟩:=DataW.trod_int underlying3 f1;obtain⟨a2,e2,_,w2⟩:=DataW.trod_int underlying24 f2;obtain⟨a3,e3,_,_⟩:=DataW.trod_string underlying9 f3;cases e0;cases e1;cases e2;cases e3;obtain⟨u,rfl,hu⟩:=Ep w2;exact⟨⟨a0,a1,u,a3⟩,rfl,hu⟩
theorem Lift.Given.val{ts:List TypeId}{args:List Value}{ds:List (DataW H)}{before:List MemPlace}(h:Lift.Given enc prog (26::ts) W base args ds before):
  ∃(x:Val.V) (vs:List Value) (d:DataW H) (ds':List (DataW H)) (q:List MemPlace),args=.agg (vaL x).toArray::vs∧ds=d::ds'∧x.f<18446744073709551616∧Lift.Given enc prog ts W base vs ds' q:=h.one mW underlying26
end
end
section
open Go.ChangeShapes Go.WideShapes Go.Deep Go.RowKit
def cB(p:av.Rp):Array Value:=#[.int .i64 p.e,.int .i64 p.v.k,.int .i64 p.v.n,.int .u64 (p.v.f:Int),.string p.v.s]
theorem jm:(prog.info? 28).map (·.size)=some 5:=by kernel_rfl
section
variable {b0:Nat}{w0 w:World}{L:List (Nat×TypeId×Array Value)}{R:List dA}{ops:Array Oper}{rest:List Oper}{o:Oper}{a:Act}{Q:Exit→Act→World→Prop}{K:Act→World→Prop}{E:Prop}{g:Nat}{p q:av.Rp}
theorem bQ(HK:Hid (Kn b0 w0 w L R))
  (h:∀w' g,Hid (Kn b0 w0 w' (L++[(g,28,cB av.rz)]) R)→wpList prog ops Q rest (a.put o.dst (.pointer (some ⟨g,0,none⟩))) w') (hgd:o.guard=none:=by rfl)(ho:o.op=.alloc 28:=by rfl):wpList prog ops Q (o::rest) a w:=
 wpList_plain hgd fun K hK=>by
  have h4:=h _ w.heap.size (zH (HK.out.alloc _ _));unfold Oper.wp execOp;simp only[ho];unfold cB av.rz at h4;go_simp;exact hK _ _ h4
theorem MH(HK:Hid (Kn b0 w0 w L R))(i:Nat)(r s:Operand)(ho:o.op=.store 28 r s)(hL:L[i]?=some (g,28,cB p))(hx:a.eval r=.pointer (some ⟨g,0,none⟩))(hy:a.eval s=.agg (cB q))
  (h:∀w',Hid (Kn b0 w0 w' (L.set i (g,28,cB q)) R)→K (a.put o.dst undef) w'):o.wp prog a w K Q:=
 kM HK r s ho i hL hx hy (by show 5≤5;decide) jm (by simp[cB,Value.oneCell']) fun w' h1 _=>h w' (by
  have e:putCells (cB p) 0 (cB q).toList=cB q:=by rw[dJ (vs:=(cB q).toList) (cs:=cB p),Array.toArray_toList]
  rw[e] at h1
  exact h1)
theorem bf(HK:Hid (Kn b0 w0 w L R))(i:Nat){r:Operand}{s:Operand}
  (h:∀w',Hid (Kn b0 w0 w' (L.set i (g,28,cB q)) R)→wpList prog ops Q rest (a.put o.dst undef) w') (hgd:o.guard=none:=by rfl)(ho:o.op=.store 28 r s:=by rfl)(hL:L[i]?=some (g,28,cB p):=by rfl)(hx:a.eval r=.pointer (some ⟨g,0,none⟩):=by rfl)(hy:a.eval s=.agg (cB q):=by rfl):wpList prog ops Q (o::rest) a w:=
 wpList_plain hgd fun _ hK=>MH HK i r s ho hL hx hy fun w' h1=>hK _ _ (h w' h1)
theorem bM(HK:Hid (Kn b0 w0 w L R))(i:Nat){r:Operand}{s:Operand}
  (h:∀w',Hid (Kn b0 w0 w' (L.set i (g,28,cB q)) R)→K (a.put o.dst undef) w') (hgd:o.guard=none:=by rfl)(ho:o.op=.store 28 r s:=by rfl)(hL:L[i]?=some (g,28,cB p):=by rfl)(hx:a.eval r=.pointer (some ⟨g,0,none⟩):=by rfl)(hy:a.eval s=.agg (cB q):=by rfl):if Region.wanted o (yielded ops a.tmps)=true then Oper.wp prog o a w K Q else E:=by
 rw[if_pos (by simp[Region.wanted,hgd])];exact MH HK i r s ho hL hx hy h
theorem xC(HK:Hid (Kn b0 w0 w L R))(i:Nat){r:Operand}(ho:o.op=.load 28 r:=by rfl)(hL:L[i]?=some (g,28,cB p):=by rfl)(hx:a.eval r=.pointer (some ⟨g,0,none⟩):=by rfl):
  (execOp a.eval o).run prog w=.ok (.value (.agg (cB p))) w:=
 dU HK r ho i hL hx (cB p) (fun j _=>by rw[Nat.zero_add]) underlying28 jm
theorem jU(HK:Hid (Kn b0 w0 w L R))(i:Nat){r:Operand}{s:Operand}{z:Int}
  (h:∀w',Hid (Kn b0 w0 w' (L.set i (g,28,cB ⟨z,p.v⟩)) R)→wpList prog ops Q rest (a.put o.dst undef) w') (hgd:o.guard=none:=by rfl)(ho:o.op=.store 23 r s:=by rfl)(hL:L[i]?=some (g,28,cB p):=by rfl)(hx:a.eval r=.pointer (some ⟨g,0,none⟩):=by rfl)(hy:a.eval s=.int .i64 z:=by rfl):wpList prog ops Q (o::rest) a w:=
 pR HK i hgd r s ho hL hx hy (by show 0<5;decide) (by kernel_rfl) fun w' h1 _=>h w' h1
theorem nk(HK:Hid (Kn b0 w0 w L R))(i:Nat){r:Operand}{s:Operand}{z:Val.V}
  (h:∀w',Hid (Kn b0 w0 w' (L.set i (g,28,cB ⟨p.e,z⟩)) R)→wpList prog ops Q rest (a.put o.dst undef) w') (hgd:o.guard=none:=by rfl)(ho:o.op=.store 26 r s:=by rfl)(hL:L[i]?=some (g,28,cB p):=by rfl)(hx:a.eval r=.pointer (some ⟨g,1,none⟩):=by rfl)(hy:a.eval s=.agg #[.int .i64 z.k,.int .i64 z.n,.int .u64 (z.f:Int),.string z.s]:=by rfl):wpList prog ops Q (o::rest) a w:=
 jJ HK i hgd r s ho hL hx hy (by show 1+4≤5;decide) iT fun w' h1 _=>h w' (by
  have e:putCells (cB p) 1 (#[Value.int .i64 z.k,.int .i64 z.n,.int .u64 (z.f:Int),.string z.s]:Array Value).toList=cB ⟨p.e,z⟩:=rfl;rw[e] at h1
  exact h1)
end
section
variable {w:World}{o:Oper}{a:Act}{p q:av.Rp}
theorem Ez(p q:av.Rp):decide (p=q)=(decide (p.e=q.e)&&(decide (p.v.k=q.v.k)&&decide (p.v.n=q.v.n)&&decide ((p.v.f:Int)=(q.v.f:Int))&&decide (p.v.s.toList=q.v.s.toList))):=by
 obtain⟨e,v⟩:=p;obtain⟨e',v'⟩:=q;rw[← zq]
 show _=(decide (e=e')&&decide (v=v'))
 by_cases h1:e=e'<;>by_cases h2:v=v'<;>simp[h1,h2]
theorem kT{b:Bool}{i:Operand}{j:Operand}(hb:decide (p=q)=b)(ho:o.op=.binOp .eql 28 i j 28:=by rfl)(hx:a.eval i=.agg (cB p):=by rfl)(hy:a.eval j=.agg (cB q):=by rfl):
  (execOp a.eval o).run prog w=.ok (.value (.bool b)) w:=by
 rw[Ez] at hb;subst hb;unfold execOp;simp only[ho,hx,hy];unfold cB;go_simp;by_cases h0:p.e=q.e<;>by_cases h1:p.v.k=q.v.k<;>by_cases h2:p.v.n=q.v.n<;>by_cases h3:(p.v.f:Int)=(q.v.f:Int)<;>by_cases h4:p.v.s.toList=q.v.s.toList<;>simp[h0,h1,h2,h3,h4]
theorem qj{b:Bool}{i:Operand}{j:Operand}(hb:(!decide (p=q))=b)(ho:o.op=.binOp .neq 28 i j 28:=by rfl)(hx:a.eval i=.agg (cB p):=by rfl)(hy:a.eval j=.agg (cB q):=by rfl):
  (execOp a.eval o).run prog w=.ok (.value (.bool b)) w:=by
 rw[Ez] at hb;subst hb;unfold execOp;simp only[ho,hx,hy];unfold cB;go_simp;by_cases h0:p.e=q.e<;>by_cases h1:p.v.k=q.v.k<;>by_cases h2:p.v.n=q.v.n<;>by_cases h3:(p.v.f:Int)=(q.v.f:Int)<;>by_cases h4:p.v.s.toList=q.v.s.toList<;>simp[h0,h1,h2,h3,h4]
end
section
variable {H:Type}{enc:TypeId×Value→H}{W:World}{base:Nat}
theorem VG:prog.cellsOf 28=5:=by kernel_rfl
def rpL(p:av.Rp):List Value:=[.int .i64 p.e,.int .i64 p.v.k,.int .i64 p.v.n,.int .u64 (p.v.f:Int),.string p.v.s]
theorem TG:nY enc 28 rpL (fun p=>p.v.f<18446744073709551616):=fun W n cs x ht=>by
 obtain⟨ys,m,_,hx,hlen,hyl,hf⟩:=DataW.trod_struct underlying28 ht;have hlen:cs.length=prog.cellsOf 28:=hlen;rw[VG] at hlen
 match cs,hlen,ys,hyl with
 | [v0,v1,v2,v3,v4],_,[y0,y1],_=>
  have f0:=hf 0 _ rfl;have f1:=hf 1 _ rfl;simp only[List.getElem?_cons_zero,List.getElem?_cons_succ] at f0 f1;obtain⟨a0,e0,_,_⟩:=DataW.trod_int underlying23 f0;obtain⟨a1,e1,w1⟩:=mW (enc:=enc) W _ _ _ f1;cases e0;cases e1;exact⟨⟨a0,a1⟩,rfl,w1⟩
end
end
section
section
variable {P:Program}{α:Type}{La:Lay P α}{F:α→Prop}
structure Fits(La:Lay P α)(F:α→Prop)(l:List α):Prop where
 fs:∀x∈l,F x
 big:l.length*La.bytes≤140737488355328
structure bJ(La:Lay P α)(F:α→Prop)(w:World)(A:Option Addr)(n c:Nat)(l:List α):Prop where
 len:l.length=n
 cap:n≤c
 rd:La.Reads w w.heap.size A l
 nl:A=none→l=[]
 fit:Fits La F l
theorem bJ.later{w w':World}{A:Option Addr}{n c:Nat}{l:List α}(h:bJ La F w A n c l)(hb:Below w.heap.size w w'):bJ La F w' A n c l:=
 ⟨h.len,h.cap,h.rd.later hb (Nat.le_refl _),h.nl,h.fit⟩
theorem bJ.none(w:World):bJ La F w none 0 0 []:=⟨rfl,Nat.le_refl _,Lay.Reads.nil _ _ _,fun _=>rfl,⟨(fun x hx=>by simp at hx),by simp⟩⟩
theorem bJ.big{w:World}{A:Option Addr}{n c:Nat}{l:List α}(h:bJ La F w A n c l):n*La.bytes≤140737488355328:=by rw[← h.len];exact h.fit.big
theorem bJ.get{w:World}{A:Option Addr}{n c:Nat}{l:List α}(h:bJ La F w A n c l){k:Nat}(hk:k<n):∃x,l[k]?=some x∧F x:=by
 obtain⟨x,hx⟩:=Lay.fI (l:=l) (k:=k) (by rw[h.len];exact hk);exact⟨x,hx,h.fit.fs x (List.mem_of_getElem? hx)⟩
theorem Lay.Own.rd{w:World}{b:Nat}{A:Option Addr}{n c:Nat}{l:List α}(h:La.Own b w (.slice A n c) l):La.Reads w w.heap.size A l∧(A=Option.none→l=[]):=by
 have hr:=h.reads;refine⟨hr.2,fun hA=>?_⟩;subst hA
 rcases h.2 with ⟨_,h0⟩|⟨g,cap,cur,e,_⟩
 ·exact List.length_eq_zero_iff.1 h0
 ·cases e
theorem bJ.own{w:World}{base:Nat}{A:Option Addr}{n c:Nat}{l:List α}(h:La.Own base w (.slice A n c) l)(hfit:Fits La F l):bJ La F w A n c l:=by
 have hn:=h.reads.1;subst hn;exact⟨rfl,h.cap,h.rd.1,h.rd.2,hfit⟩
theorem bJ.at{w:World}{A:Option Addr}{n c:Nat}{l:List α}(h:bJ La F w A n c l)(hn:0<n):∃b o,A=some ⟨b,o,Option.none⟩∧
  ∀W,Below w.heap.size w W→∀i x,l[i]?=some x→∀j v,(La.f x)[j]?=some v→W.cell? ⟨b,o+i*La.k+j,Option.none⟩=some v:=by
 have hl:=h.len;obtain⟨b,o,rfl,hb,hc⟩:=h.rd (by omega);exact⟨b,o,rfl,fun W hW i x hx j v hv=>(hW.cell (p:=⟨b,o+i*La.k+j,Option.none⟩) hb).trans (hc i x hx j v hv)⟩
theorem bJ.cells{w:World}{b o n c:Nat}{l:List α}(h:bJ La F w (some ⟨b,o,Option.none⟩) n c l){i:Nat}{x:α}(hx:l[i]?=some x):∀j v,(La.f x)[j]?=some v→w.cell? ⟨b,o+i*La.k+j,Option.none⟩=some v:=by
 exact aaf
theorem Fits.sub{l m:List α}(h:Fits La F l)(hm:∀x∈m,x∈l)(hn:m.length≤l.length):Fits La F m:=
 ⟨fun x hx=>h.fs x (hm x hx),Nat.le_trans (Nat.mul_le_mul_right _ hn) h.big⟩
theorem bJ.take{w:World}{A:Option Addr}{n c:Nat}{l:List α}(h:bJ La F w A n c l){hi:Nat}(h2:hi≤n):bJ La F w A hi c (l.take hi):=
 ⟨by rw[List.length_take,h.len];omega,Nat.le_trans h2 h.cap,h.rd.take hi,(fun e=>by rw[h.nl e];simp),h.fit.sub (fun x hx=>List.mem_of_mem_take hx) (by rw[List.length_take];omega)⟩
def uZ(k:Nat)(A:Option Addr)(lo c:Nat):Option Addr:=if c=lo then A else A.map (·.add (lo*k))
theorem bJ.sub{w:World}{A:Option Addr}{n c:Nat}{l:List α}(h:bJ La F w A n c l){lo hi:Nat}(h1:lo≤hi)(h2:hi≤n):bJ La F w (uZ La.k A lo c) (hi-lo) (c-lo) ((l.drop lo).take (hi-lo)):=by
 have hl:=h.len;have hc:=h.cap;have hle:((l.drop lo).take (hi-lo)).length=hi-lo:=by rw[List.length_take,List.length_drop];omega
 have hft:Fits La F ((l.drop lo).take (hi-lo)):=h.fit.sub (fun x hx=>List.mem_of_mem_drop (List.mem_of_mem_take hx)) (by omega);by_cases h0:hi-lo=0
 ·have he:(l.drop lo).take (hi-lo)=[]:=by rw[h0];rfl
  rw[he] at hft ⊢;exact⟨by rw[h0];rfl,by omega,Lay.Reads.nil _ _ _,fun _=>rfl,hft⟩
 ·obtain⟨b,o,rfl,hb',hc'⟩:=h.rd (by omega)
  have hA:uZ La.k (some ⟨b,o,Option.none⟩) lo c=some ⟨b,o+lo*La.k,Option.none⟩:=by
   unfold uZ;rw[if_neg (by omega),Option.map_some,Lay.vO]
  rw[hA];exact⟨hle,by omega,(h.rd.drop lo).take (hi-lo),(fun e=>by cases e),hft⟩
theorem bJ.drop{w:World}{A:Option Addr}{n c:Nat}{l:List α}(h:bJ La F w A n c l){lo:Nat}(h2:lo≤n):bJ La F w (uZ La.k A lo c) (n-lo) (c-lo) (l.drop lo):=by
 have h3:=h.sub h2 (Nat.le_refl n);exact Zx
end
section
variable {P:Program}{α:Type}(La:Lay P α){o:Oper}{a:Act}{w:World}
theorem Lay.elem:P.elem La.t=La.e:=by simp[Program.elem,La.und]
theorem Lay.JQ:P.underlying La.t=some (.slice (P.elem La.t)):=by rw[La.elem];exact La.und
theorem Lay.vY(w:World):(sizeOf (P.elem La.t)).run P w=.ok La.k w:=by
 rw[La.elem];obtain⟨i0,hi,hz0,hz1,hz2⟩:=info_parts La.info;simp[sizeOf,typeInfo,hi,hz1]
theorem nT{A:Option Addr}{n c hi:Nat}{x:Operand}{q:Operand}(h2:hi≤c)(ho:o.op=.slice La.t x none (some q) none:=by rfl)(hx:a.eval x=.slice A n c:=by rfl)(hq:a.eval q=.int .i64 (hi:Int):=by rfl):
  (execOp a.eval o).run P w=.ok (.value (.slice A hi c)) w:=by
 unfold execOp;simp only[ho,Option.map_some,Option.map_none,hx,hq];have h:=run_sliceAt_slice (w:=w) La.t (.slice A n c) none (some (.int .i64 (hi:Int))) none La.JQ;rw[run_slice_h w La.t A n c La.JQ .i64 (hi:Int) (by omega) (by omega),La.vY] at h;simp[h,Result.andThen,sliced];intro _;cases A<;>simp[Addr.add]
theorem gM{b off n c i:Nat}{x:Operand}{q:Operand}(h:i<n)(ho:o.op=.indexAddr La.t x q:=by rfl)(hx:a.eval x=.slice (some ⟨b,off,none⟩) n c:=by rfl)(hq:a.eval q=.int .i64 (i:Int):=by rfl):
  (execOp a.eval o).run P w=.ok (.value (.pointer (some ⟨b,off+i*La.k,none⟩))) w:=by
 unfold execOp;simp only[ho,hx,hq];have h1:=run_indexAt_slice (w:=w) La.t ⟨b,off,none⟩ n c .i64 (i:Int) La.JQ;rw[La.vY] at h1;have h2:(0:Int)≤(i:Int)∧(i:Int)<(n:Int):=by omega
 simp[h1,h2,h,Result.andThen,Lay.vO]
theorem lD{A:Option Addr}{n c lo:Nat}{x:Operand}{p:Operand}(h1:lo≤n)(ho:o.op=.slice La.t x (some p) none none:=by rfl)(hx:a.eval x=.slice A n c:=by rfl)(hp:a.eval p=.int .i64 (lo:Int):=by rfl):
  (execOp a.eval o).run P w=.ok (.value (.slice (uZ La.k A lo c) (n-lo) (c-lo))) w:=by
 unfold execOp;simp only[ho,Option.map_some,Option.map_none,hx,hp];have h:=run_sliceAt_slice (w:=w) La.t (.slice A n c) (some (.int .i64 (lo:Int))) none none La.JQ;rw[run_slice_l w La.t A n c La.JQ .i64 (lo:Int) (by omega) (by omega),La.vY] at h;simp[h,Result.andThen,sliced,uZ]
theorem yR{A:Option Addr}{n c lo hi:Nat}{x:Operand}{p:Operand}{q:Operand}(h1:lo≤hi)(h2:hi≤c)(ho:o.op=.slice La.t x (some p) (some q) none:=by rfl)(hx:a.eval x=.slice A n c:=by rfl)(hp:a.eval p=.int .i64 (lo:Int):=by rfl)(hq:a.eval q=.int .i64 (hi:Int):=by rfl):
  (execOp a.eval o).run P w=.ok (.value (.slice (uZ La.k A lo c) (hi-lo) (c-lo))) w:=by
 unfold execOp;simp only[ho,Option.map_some,Option.map_none,hx,hp,hq];have h:=run_sliceAt_slice (w:=w) La.t (.slice A n c) (some (.int .i64 (lo:Int))) (some (.int .i64 (hi:Int))) none La.JQ;rw[run_slice_lh w La.t A n c La.JQ .i64 .i64 (lo:Int) (hi:Int) (by omega) (by omega) (by omega),La.vY] at h;simp[h,Result.andThen,sliced,uZ]
theorem je{b off:Nat}{x:α}{fs:Array Field}(p:Operand)(hs:P.underlying La.e=some (.struct fs))(hc:∀j v,(La.f x)[j]?=some v→w.cell? ⟨b,off+j,none⟩=some v)(ho:o.op=.load La.e p:=by rfl)(hx:a.eval p=.pointer (some ⟨b,off,none⟩):=by rfl):
  (execOp a.eval o).run P w=.ok (.value (.agg (La.f x).toArray)) w:=by
 obtain⟨i0,hi,hz0,hz1,hz2⟩:=info_parts La.info;have hr:w.rangeAt b off (La.f x):=fun j v hj=>hc j v hj
 have h:=run_loadVar_mid (P:=P) w b off La.e (La.f x) _ hr hs rfl (by rw[hi,La.len];simp[hz1]);exact Ry
end
end
end Go.Proofs.YtieoeendnccafaaGreat
